package vault

import (
	"fmt"
	"math"
	"math/rand"
	"slices"
	"strings"
	"testing"

	"sphragis/api"
	"sphragis/device"
	"sphragis/seal"
)

var (
	one    = api.Key{Gen: 1, Secret: strings.Repeat("a", api.KeySize)}
	two    = api.Key{Gen: 2, Secret: strings.Repeat("b", api.KeySize)}
	five   = api.Key{Gen: 5, Secret: strings.Repeat("c", api.KeySize)}
	last   = api.Key{Gen: math.MaxUint32, Secret: strings.Repeat("d", api.KeySize)}
	full   = strings.Repeat("t", api.Content)
	over   = full + "t"
	anyTag = strings.Repeat("g", api.TagSize)
)

func disk(t *testing.T, blocks int) *device.Device {
	t.Helper()
	d, e := device.New(blocks)
	if e != api.OK {
		t.Fatal(e)
	}
	return d
}

// start is a vault on a new device, of the generation 1 and the start 3.
func start(t *testing.T, blocks int) (*device.Device, *Vault) {
	t.Helper()
	d := disk(t, blocks)
	v, e := New(d, []api.Key{one, two}, 1, 3)
	if e != api.OK || v == nil {
		t.Fatal(v, e)
	}
	return d, v
}

func write(t *testing.T, v *Vault, s string) api.Ref {
	t.Helper()
	r, e := v.Write(s)
	if e != api.OK {
		t.Fatal(e)
	}
	return r
}

// holds tells what the block at p holds.
func holds(t *testing.T, d *device.Device, p uint32) string {
	t.Helper()
	return d.Image()[p]
}

// wrongRings are rings without a right key of the generation 1, and what keys.Find says of them.
func wrongRings() map[string]struct {
	ring []api.Key
	gen  uint32
	e    api.Errno
} {
	type wrong = struct {
		ring []api.Key
		gen  uint32
		e    api.Errno
	}
	many := []api.Key{}
	for i := range api.MaxKeys + 1 {
		many = append(many, api.Key{Gen: uint32(i + 1), Secret: one.Secret})
	}
	return map[string]wrong{
		"nil":              {nil, 1, api.ErrKey},
		"empty":            {[]api.Key{}, 1, api.ErrKey},
		"another":          {[]api.Key{two}, 1, api.ErrKey},
		"generation 0":     {[]api.Key{one}, 0, api.ErrKey},
		"greatest":         {[]api.Key{one}, math.MaxUint32, api.ErrKey},
		"falling":          {[]api.Key{two, one}, 1, api.ErrRing},
		"twice":            {[]api.Key{one, one}, 1, api.ErrRing},
		"a key of 0":       {[]api.Key{{Secret: one.Secret}, one}, 1, api.ErrRing},
		"a short secret":   {[]api.Key{one, {Gen: 2, Secret: "b"}}, 1, api.ErrRing},
		"a long secret":    {[]api.Key{{Gen: 1, Secret: one.Secret + "a"}}, 1, api.ErrRing},
		"too many":         {many, 1, api.ErrRing},
		"wrong and absent": {[]api.Key{two, two}, 1, api.ErrRing},
	}
}

// TestNew (P13.1): no block but 0 and 1 is taken, nothing was sealed, and the device is as it was.
func TestNew(t *testing.T) {
	for _, blocks := range []int{api.MinBlocks, 5, 60, api.MaxBlocks} {
		d, v := start(t, blocks)
		if v.Free() != blocks-2 || v.Seals() != 0 {
			t.Error(blocks, v.Free(), v.Seals())
		}
		if !slices.Equal(d.Image(), disk(t, blocks).Image()) || d.Register() != disk(t, blocks).Register() {
			t.Error(blocks, "the device has changed")
		}
		if v.Take(0) != api.ErrArg || v.Take(1) != api.ErrArg || v.Free() != blocks-2 {
			t.Error(blocks, "0 and 1 are not taken")
		}
		for p := 2; p < blocks; p++ {
			if e := v.Give(uint32(p)); e != api.ErrArg {
				t.Fatal(blocks, p, e)
			}
		}
	}
}

// TestNewWrong (P13.1, R2): a nil device comes ahead of a wrong ring; beside an error there is no vault.
func TestNewWrong(t *testing.T) {
	if v, e := New(nil, []api.Key{one}, 1, 0); v != nil || e != api.ErrNil {
		t.Error(v, e)
	}
	for name, w := range wrongRings() {
		if v, e := New(nil, w.ring, w.gen, 0); v != nil || e != api.ErrNil {
			t.Error(name, v, e)
		}
		d := disk(t, 4)
		if v, e := New(d, w.ring, w.gen, 0); v != nil || e != w.e {
			t.Error(name, v, e)
		}
		if !slices.Equal(d.Image(), disk(t, 4).Image()) {
			t.Error(name, "the device has changed")
		}
	}
}

// TestNewEnds (P13.1, P13.2): generations, starts and rings at their ends are sealed with as they are.
func TestNewEnds(t *testing.T) {
	ring := []api.Key{one}
	for i := range api.MaxKeys - 2 {
		ring = append(ring, api.Key{Gen: uint32(i + 2), Secret: two.Secret})
	}
	ring = append(ring, last)
	for _, gen := range []uint32{1, 2, math.MaxUint32} {
		for _, boot := range []uint32{0, 1, math.MaxUint32} {
			d := disk(t, 4)
			v, e := New(d, ring, gen, boot)
			if e != api.OK {
				t.Fatal(gen, boot, e)
			}
			r := write(t, v, "text")
			want, _ := seal.Seal(ring, api.Head{Page: 2, Gen: gen, Boot: boot}, "text")
			if holds(t, d, 2) != want || r != (api.Ref{Page: 2, Tag: seal.Tag(want)}) {
				t.Error(gen, boot, r)
			}
			if g, e := v.Gen(r); g != gen || e != api.OK {
				t.Error(gen, boot, g, e)
			}
		}
	}
}

// TestTakeGive (P13.1): places, and what is taken twice or was not.
func TestTakeGive(t *testing.T) {
	_, v := start(t, 6)
	for _, p := range []uint32{0, 1, 6, 7, 1 << 16, 1 << 31, math.MaxUint32} {
		if e, f := v.Take(p), v.Give(p); e != api.ErrArg || f != api.ErrArg || v.Free() != 4 {
			t.Error(p, e, f, v.Free())
		}
	}
	for i, p := range []uint32{5, 2, 4, 3} {
		if e := v.Give(p); e != api.ErrArg || v.Free() != 4-i {
			t.Error(p, e, v.Free())
		}
		if e := v.Take(p); e != api.OK || v.Free() != 3-i {
			t.Error(p, e, v.Free())
		}
		if e := v.Take(p); e != api.ErrArg || v.Free() != 3-i {
			t.Error(p, e, v.Free())
		}
	}
	for i, p := range []uint32{3, 5, 2, 4} {
		if e := v.Give(p); e != api.OK || v.Free() != i+1 {
			t.Error(p, e, v.Free())
		}
		if e := v.Give(p); e != api.ErrArg || v.Free() != i+1 {
			t.Error(p, e, v.Free())
		}
	}
	if v.Seals() != 0 {
		t.Error(v.Seals())
	}
}

// TestTakenWithoutPower (P13.1): which blocks are taken is the vault's alone, whatever the device can do.
func TestTakenWithoutPower(t *testing.T) {
	d, v := start(t, 6)
	write(t, v, "text")
	d.Bad(3, true)
	d.Cut(0)
	d.Flush()
	if v.Take(3) != api.OK || v.Give(2) != api.OK || v.Free() != 3 || v.Turn([]api.Key{five}, 5) != api.OK || v.Seals() != 1 {
		t.Error(v.Free(), v.Seals())
	}
	d.Wake(nil)
	if r := write(t, v, "other"); r.Page != 2 {
		t.Error(r)
	}
	if r := write(t, v, "third"); r.Page != 4 {
		t.Error(r)
	}
}

// TestPlaces (P13.2): the document's example, and the least block that is not taken, whatever was given when.
func TestPlaces(t *testing.T) {
	_, v := start(t, 9)
	a, b := write(t, v, "a"), write(t, v, "b")
	v.Give(2)
	c := write(t, v, "c")
	if a.Page != 2 || b.Page != 3 || c.Page != 2 {
		t.Error(a, b, c)
	}
	v.Take(4)
	v.Take(6)
	for _, want := range []uint32{5, 7, 8} {
		if r := write(t, v, "d"); r.Page != want {
			t.Error(r.Page, want)
		}
	}
	v.Give(7)
	v.Give(4)
	for _, want := range []uint32{4, 7} {
		if r := write(t, v, "e"); r.Page != want {
			t.Error(r.Page, want)
		}
	}
}

// TestWriteBlock (P13.2): what is written is the block of chapter 6, of a head that counts the seals, and nothing else.
func TestWriteBlock(t *testing.T) {
	d, v := start(t, 8)
	ring := []api.Key{one, two}
	for i, s := range []string{"", "a", full, strings.Repeat("\x00", 20), "\xff\xfe"} {
		ahead := d.Image()
		r := write(t, v, s)
		head := api.Head{Page: uint32(i + 2), Gen: 1, Boot: 3, Seq: uint64(i)}
		want, _ := seal.Seal(ring, head, s)
		ahead[i+2] = want
		if !slices.Equal(d.Image(), ahead) || r != (api.Ref{Page: uint32(i + 2), Tag: seal.Tag(want)}) {
			t.Errorf("%q: %v", s, r)
		}
		if v.Seals() != uint64(i+1) || v.Free() != 5-i {
			t.Error(v.Seals(), v.Free())
		}
		if got, e := v.Read(r); got != s || e != api.OK {
			t.Errorf("%q: %q, %v", s, got, e)
		}
	}
}

// TestWritePending (P13.2): a page is written, and no more: the power may lose it, till somebody flushes.
func TestWritePending(t *testing.T) {
	d, v := start(t, 8)
	r := write(t, v, "text")
	d.Cut(0)
	d.Flush()
	d.Wake(nil)
	if s, e := v.Read(r); s != "" || e != api.ErrIntegrity {
		t.Error(s, e)
	}
	d.Cut(2)
	r = write(t, v, "other")
	if e := d.Flush(); e != api.OK {
		t.Error("a write is one operation", e)
	}
	d.Flush()
	d.Wake(nil)
	if s, e := v.Read(r); s != "other" || e != api.OK {
		t.Error(s, e)
	}
}

// TestWriteWrong (P13.2, R2): ErrPad comes ahead of ErrFull, that ahead of the device's; nothing is sealed or taken.
func TestWriteWrong(t *testing.T) {
	d, v := start(t, 4)
	refused := func(what, s string, want api.Errno) {
		t.Helper()
		ahead, seals, free := d.Image(), v.Seals(), v.Free()
		if r, e := v.Write(s); r != (api.Ref{}) || e != want {
			t.Error(what, r, e)
		}
		if !slices.Equal(d.Image(), ahead) || v.Seals() != seals || v.Free() != free {
			t.Error(what, v.Seals(), v.Free())
		}
	}
	refused("long", over, api.ErrPad)
	refused("longer", strings.Repeat("t", api.MaxText), api.ErrPad)
	write(t, v, "a")
	write(t, v, "b")
	refused("full", "", api.ErrFull)
	refused("full", full, api.ErrFull)
	refused("full, and long", over, api.ErrPad)
	d.Cut(0)
	d.Flush()
	refused("full, without power", "c", api.ErrFull)
	refused("long, without power", over, api.ErrPad)
}

// TestWriteFails (P13.2, P13.4): where the device fails, the block stays not taken, and the seal's number is spent.
func TestWriteFails(t *testing.T) {
	d, v := start(t, 5)
	write(t, v, "a")
	d.Flush()
	d.Cut(0)
	for i := range 3 {
		ahead := d.Image()
		if r, e := v.Write("b"); r != (api.Ref{}) || e != api.ErrPower {
			t.Error(r, e)
		}
		if v.Free() != 2 || v.Give(3) != api.ErrArg || v.Seals() != uint64(i+2) || !slices.Equal(d.Image(), ahead) {
			t.Error(v.Free(), v.Seals())
		}
	}
	d.Wake(nil)
	r := write(t, v, "b")
	head, _ := seal.Get(holds(t, d, 3)[:api.HeadSize])
	if r.Page != 3 || head != (api.Head{Page: 3, Gen: 1, Boot: 3, Seq: 4}) || v.Seals() != 5 || v.Free() != 1 {
		t.Error(r, head, v.Seals(), v.Free())
	}
}

// TestWriteBad (P13.2): a bad block is written all the same: that it can't be read is told when it is.
func TestWriteBad(t *testing.T) {
	d, v := start(t, 5)
	d.Bad(2, true)
	r := write(t, v, "a")
	if s, e := v.Read(r); r.Page != 2 || s != "" || e != api.ErrIO {
		t.Error(r, s, e)
	}
	d.Bad(2, false)
	if s, e := v.Read(r); s != "a" || e != api.OK {
		t.Error(s, e)
	}
}

// TestSuper (P13.2): the blocks 0 and 1 are written again and again, and count like pages' seals.
func TestSuper(t *testing.T) {
	d, v := start(t, 4)
	ring := []api.Key{one, two}
	for i, s := range []string{"root", "", full, "again"} {
		for slot := range uint32(2) {
			ahead := d.Image()
			tag, e := v.Super(slot, s)
			seq := uint64(2*i) + uint64(slot)
			want, _ := seal.Seal(ring, api.Head{Page: slot, Gen: 1, Boot: 3, Seq: seq}, s)
			ahead[slot] = want
			if e != api.OK || tag != seal.Tag(want) || !slices.Equal(d.Image(), ahead) {
				t.Errorf("%d %q: %q, %v", slot, s, tag, e)
			}
			if v.Seals() != seq+1 || v.Free() != 2 {
				t.Error(v.Seals(), v.Free())
			}
			if got, e := v.First(slot, tag); got != s || e != api.OK {
				t.Errorf("%d %q: %q, %v", slot, s, got, e)
			}
		}
	}
	write(t, v, "a")
	write(t, v, "b")
	if tag, e := v.Super(1, "full"); len(tag) != api.TagSize || e != api.OK {
		t.Error("a full vault has its blocks 0 and 1", e)
	}
}

// TestSuperWrong (P13.2, R2): ErrArg comes ahead of ErrPad, that ahead of the device's; only a seal that was made counts.
func TestSuperWrong(t *testing.T) {
	d, v := start(t, 4)
	refused := func(slot uint32, s string, want api.Errno, seals uint64) {
		t.Helper()
		ahead := d.Image()
		if tag, e := v.Super(slot, s); tag != "" || e != want {
			t.Errorf("%d: %q, %v", slot, tag, e)
		}
		if v.Seals() != seals || v.Free() != 2 || !slices.Equal(d.Image(), ahead) {
			t.Error(slot, v.Seals(), v.Free())
		}
	}
	for range 2 {
		for _, slot := range []uint32{2, 3, 4, 1 << 16, math.MaxUint32} {
			refused(slot, "s", api.ErrArg, 0)
			refused(slot, over, api.ErrArg, 0)
		}
		refused(0, over, api.ErrPad, 0)
		refused(1, over, api.ErrPad, 0)
		d.Cut(0)
		d.Flush()
	}
	refused(0, "s", api.ErrPower, 1)
	refused(1, full, api.ErrPower, 2)
	d.Wake(nil)
	if _, e := v.Super(0, "s"); e != api.OK || v.Seals() != 3 {
		t.Error(e, v.Seals())
	}
	if head, _ := seal.Get(holds(t, d, 0)[:api.HeadSize]); head.Seq != 2 {
		t.Error(head)
	}
}

// TestReadRefs (P13.3, R2): a wrong ref comes ahead of all that the device says; a right one off the device behind it.
func TestReadRefs(t *testing.T) {
	d, v := start(t, 5)
	r := write(t, v, "text")
	tag, _ := v.Super(1, "root")
	wrong := []api.Ref{
		{}, {Page: 2}, {Tag: r.Tag}, {Page: 1, Tag: tag}, {Page: 0, Tag: tag},
		{Page: 2, Tag: r.Tag[1:]}, {Page: 2, Tag: r.Tag + "x"}, {Page: 9, Tag: "x"},
	}
	for range 2 {
		for _, w := range wrong {
			s, e := v.Read(w)
			gen, f := v.Gen(w)
			if s != "" || e != api.ErrArg || gen != 0 || f != api.ErrArg {
				t.Error(w, s, e, gen, f)
			}
		}
		for _, p := range []uint32{5, 6, math.MaxUint32} { // no block's place, as the device says
			s, e := v.Read(api.Ref{Page: p, Tag: r.Tag})
			gen, f := v.Gen(api.Ref{Page: p, Tag: r.Tag})
			if s != "" || e != api.ErrArg || gen != 0 || f != api.ErrArg {
				t.Error(p, s, e, gen, f)
			}
		}
		d.Cut(0)
		d.Flush()
	}
}

// TestReadDevice (P13.3, R2): the device's errors come ahead of what the block says.
func TestReadDevice(t *testing.T) {
	d, v := start(t, 5)
	r := write(t, v, "text")
	tag, _ := v.Super(0, "root")
	refused := func(want api.Errno) {
		t.Helper()
		for _, tag := range []string{r.Tag, anyTag} {
			if s, e := v.Read(api.Ref{Page: 2, Tag: tag}); s != "" || e != want {
				t.Errorf("%q, %v", s, e)
			}
			if gen, e := v.Gen(api.Ref{Page: 2, Tag: tag}); gen != 0 || e != want {
				t.Error(gen, e)
			}
			if s, e := v.First(2, tag); s != "" || e != want {
				t.Errorf("%q, %v", s, e)
			}
		}
		for _, tag := range []string{tag, "", anyTag} {
			if s, e := v.First(0, tag); s != "" || e != want {
				t.Errorf("%q, %v", s, e)
			}
		}
	}
	d.Bad(2, true)
	d.Bad(0, true)
	refused(api.ErrIO)
	d.Flush()
	d.Cut(0)
	d.Flush()
	refused(api.ErrPower)
	d.Wake(nil)
	d.Bad(2, false)
	d.Bad(0, false)
	if s, e := v.Read(r); s != "text" || e != api.OK {
		t.Error(s, e)
	}
}

// TestFirst (P13.3, R2): of any block, taken or not, under its tag alone.
func TestFirst(t *testing.T) {
	d, v := start(t, 5)
	r := write(t, v, "text")
	tag, _ := v.Super(1, "root")
	for _, given := range []bool{false, true} {
		if s, e := v.First(2, r.Tag); s != "text" || e != api.OK {
			t.Error(given, s, e)
		}
		if s, e := v.Read(r); s != "text" || e != api.OK {
			t.Error(given, s, e)
		}
		v.Give(2)
	}
	if s, e := v.First(1, tag); s != "root" || e != api.OK {
		t.Error(s, e)
	}
	for _, wrong := range []string{"", tag[1:], tag + "x", r.Tag, anyTag, tag[:31] + string(tag[31]^1), string(tag[0]^1) + tag[1:]} {
		if s, e := v.First(1, wrong); s != "" || e != api.ErrIntegrity {
			t.Errorf("%q: %q, %v", wrong, s, e)
		}
	}
	for _, p := range []uint32{5, 6, math.MaxUint32} {
		if s, e := v.First(p, tag); s != "" || e != api.ErrArg {
			t.Error(p, s, e)
		}
	}
	if s, e := v.First(0, strings.Repeat("\x00", api.TagSize)); s != "" || e != api.ErrKey {
		t.Error("a block that was never written is one of generation 0", s, e)
	}
	d.Put(0, holds(t, d, 1))
	if s, e := v.First(0, tag); s != "" || e != api.ErrIntegrity {
		t.Error("a block in another's place", s, e)
	}
}

// TestMeddled (P13.3, R2): each byte of a block counts: its tag is the ref's no more, or binds other bytes.
func TestMeddled(t *testing.T) {
	d, v := start(t, 5)
	r := write(t, v, "text")
	block := holds(t, d, 2)
	for i := range block {
		for _, bit := range []byte{1, 0x80} {
			other := []byte(block)
			other[i] ^= bit
			d.Put(2, string(other))
			want := api.ErrIntegrity
			if i >= 4 && i < 8 { // the head's generation: none that there is a key of
				want = api.ErrKey
			}
			if s, e := v.Read(r); s != "" || e != want {
				t.Errorf("byte %d: %q, %v", i, s, e)
			}
			if gen, e := v.Gen(r); gen != 0 || e != want {
				t.Errorf("byte %d: %d, %v", i, gen, e)
			}
			if s, e := v.First(2, seal.Tag(string(other))); s != "" || e != want {
				t.Errorf("byte %d: %q, %v", i, s, e)
			}
		}
	}
	d.Put(2, block)
	if s, e := v.Read(r); s != "text" || e != api.OK {
		t.Error(s, e)
	}
}

// TestErrorsOfABlock (P13.3): a wrong tag or place comes ahead of a key that is not there.
func TestErrorsOfABlock(t *testing.T) {
	d, v := start(t, 5)
	foreign, _ := seal.Seal([]api.Key{five}, api.Head{Page: 2, Gen: 5, Boot: 9, Seq: 7}, "text")
	moved, _ := seal.Seal([]api.Key{five}, api.Head{Page: 3, Gen: 5, Boot: 9, Seq: 7}, "text")
	high, _ := seal.Seal([]api.Key{one}, api.Head{Page: 2 + 1<<24, Gen: 1, Boot: 9, Seq: 7}, "text")
	own, _ := seal.Seal([]api.Key{two}, api.Head{Page: 2, Gen: 2, Boot: 9, Seq: 7}, "text")
	for _, c := range []struct {
		name, block, tag string
		want             api.Errno
	}{
		{"no key", foreign, seal.Tag(foreign), api.ErrKey},
		{"no key, another tag", foreign, anyTag, api.ErrIntegrity},
		{"no key, another place", moved, seal.Tag(moved), api.ErrIntegrity},
		{"another place in the highest byte", high, seal.Tag(high), api.ErrIntegrity},
		{"of another start, and another key of the ring", own, seal.Tag(own), api.OK},
	} {
		d.Put(2, c.block)
		s, e := v.First(2, c.tag)
		r, f := v.Read(api.Ref{Page: 2, Tag: c.tag})
		gen, g := v.Gen(api.Ref{Page: 2, Tag: c.tag})
		if e != c.want || f != c.want || g != c.want || s != r {
			t.Error(c.name, s, e, r, f, g)
		}
		if c.want == api.OK && (s != "text" || gen != 2) || c.want != api.OK && (s != "" || gen != 0) {
			t.Error(c.name, s, gen)
		}
	}
}

// TestTurnedBack (P13.3): a block that was turned back to an earlier one is not taken for the later one.
func TestTurnedBack(t *testing.T) {
	d, v := start(t, 5)
	a := write(t, v, "old")
	earlier := holds(t, d, 2)
	v.Give(2)
	b := write(t, v, "new")
	d.Put(2, earlier)
	if s, e := v.Read(b); s != "" || e != api.ErrIntegrity {
		t.Error(s, e)
	}
	if s, e := v.Read(a); s != "old" || e != api.OK {
		t.Error(s, e)
	}
}

// TestTurn (P13.1): seals are of the new generation and counted on; old pages are read while their key is there.
func TestTurn(t *testing.T) {
	d, v := start(t, 6)
	a := write(t, v, "a")
	if e := v.Turn([]api.Key{one, two, five}, 5); e != api.OK || v.Free() != 3 || v.Seals() != 1 {
		t.Error(e, v.Free(), v.Seals())
	}
	b := write(t, v, "b")
	want, _ := seal.Seal([]api.Key{five}, api.Head{Page: 3, Gen: 5, Boot: 3, Seq: 1}, "b")
	if holds(t, d, 3) != want || v.Seals() != 2 {
		t.Error(b, v.Seals())
	}
	genA, e := v.Gen(a)
	genB, f := v.Gen(b)
	if genA != 1 || genB != 5 || e != api.OK || f != api.OK {
		t.Error(genA, genB, e, f)
	}
	if e := v.Turn([]api.Key{five}, 5); e != api.OK {
		t.Error(e)
	}
	if s, e := v.Read(a); s != "" || e != api.ErrKey {
		t.Error(s, e)
	}
	if gen, e := v.Gen(a); gen != 0 || e != api.ErrKey {
		t.Error(gen, e)
	}
	if s, e := v.Read(b); s != "b" || e != api.OK {
		t.Error(s, e)
	}
	v.Turn([]api.Key{one, five}, 1)
	if s, e := v.Read(a); s != "a" || e != api.OK {
		t.Error(s, e)
	}
}

// TestTurnWrong (P13.1, R2): behind an error the vault has the ring and the generation that it had.
func TestTurnWrong(t *testing.T) {
	d, v := start(t, 40)
	a := write(t, v, "a")
	for name, w := range wrongRings() {
		if e := v.Turn(w.ring, w.gen); e != w.e {
			t.Error(name, e)
		}
		if s, e := v.Read(a); s != "a" || e != api.OK {
			t.Error(name, s, e)
		}
		seq := v.Seals()
		r := write(t, v, name)
		want, _ := seal.Seal([]api.Key{one}, api.Head{Page: r.Page, Gen: 1, Boot: 3, Seq: seq}, name)
		if holds(t, d, r.Page) != want {
			t.Error(name, r)
		}
	}
}

// TestRingIsNotKept (R3): a ring that is written into behind the call makes no difference, nor is it written into.
func TestRingIsNotKept(t *testing.T) {
	ring := append(make([]api.Key, 0, 8), one, two)
	d := disk(t, 5)
	v, _ := New(d, ring, 2, 3)
	if spare := ring[:8]; spare[0] != one || spare[1] != two || spare[2] != (api.Key{}) || spare[7] != (api.Key{}) {
		t.Error(spare)
	}
	ring[0], ring[1] = api.Key{}, api.Key{Gen: 2, Secret: five.Secret}
	r := write(t, v, "a")
	if s, e := v.Read(r); s != "a" || e != api.OK {
		t.Error(s, e)
	}
	if _, _, e := seal.Open([]api.Key{two}, holds(t, d, 2)); e != api.OK {
		t.Error("sealed with what the ring became", e)
	}
	other := append(make([]api.Key, 0, 8), two, five)
	v.Turn(other, 5)
	if spare := other[:8]; spare[0] != two || spare[1] != five || spare[2] != (api.Key{}) {
		t.Error(spare)
	}
	other[0], other[1] = one, one
	r = write(t, v, "b")
	if s, e := v.Read(r); s != "b" || e != api.OK {
		t.Error(s, e)
	}
}

// TestNilVault (R4, R1): a nil vault, and one that New did not give, answer ErrNil ahead of all else, or zero values.
func TestNilVault(t *testing.T) {
	made := &Vault{Device: disk(t, 4)}
	for name, v := range map[string]*Vault{"nil": nil, "zero": {}, "made": made} {
		for _, s := range []string{"a", over} {
			if r, e := v.Write(s); r != (api.Ref{}) || e != api.ErrNil {
				t.Error(name, r, e)
			}
			for _, slot := range []uint32{0, 9} {
				if tag, e := v.Super(slot, s); tag != "" || e != api.ErrNil {
					t.Error(name, tag, e)
				}
			}
		}
		for _, r := range []api.Ref{{}, {Page: 2, Tag: anyTag}} {
			if s, e := v.Read(r); s != "" || e != api.ErrNil {
				t.Error(name, s, e)
			}
			if s, e := v.First(r.Page, r.Tag); s != "" || e != api.ErrNil {
				t.Error(name, s, e)
			}
			if gen, e := v.Gen(r); gen != 0 || e != api.ErrNil {
				t.Error(name, gen, e)
			}
		}
		for _, p := range []uint32{0, 2, math.MaxUint32} {
			if v.Take(p) != api.ErrNil || v.Give(p) != api.ErrNil {
				t.Error(name, p)
			}
		}
		if v.Turn([]api.Key{one}, 1) != api.ErrNil || v.Turn(nil, 1) != api.ErrNil {
			t.Error(name, "Turn")
		}
		if v.Free() != 0 || v.Seals() != 0 {
			t.Error(name, v.Free(), v.Seals())
		}
	}
}

// TestNoBlocks (R1): a device that no call gave has no blocks; a vault on it is full, and nothing of it panics.
func TestNoBlocks(t *testing.T) {
	v, e := New(&device.Device{}, []api.Key{one}, 1, 0)
	if e != api.OK || v.Free() != 0 {
		t.Fatal(e, v.Free())
	}
	if _, e := v.Write("a"); e != api.ErrFull {
		t.Error(e)
	}
	if _, e := v.Super(0, "a"); e != api.ErrArg {
		t.Error(e)
	}
	if _, e := v.First(0, anyTag); e != api.ErrArg || v.Take(2) != api.ErrArg || v.Give(2) != api.ErrArg {
		t.Error(e)
	}
}

// TestPromoted (P13.1): a vault has its device's calls: they are the device's own.
func TestPromoted(t *testing.T) {
	d, v := start(t, 7)
	r := write(t, v, "a")
	if v.Blocks() != 7 || v.Flush() != api.OK || v.Advance(r.Tag) != api.OK || d.Register().Tag != r.Tag {
		t.Error(v.Blocks(), d.Register())
	}
	d.Cut(0)
	d.Flush()
	d.Wake(nil)
	if s, e := v.Read(r); s != "a" || e != api.OK {
		t.Error(s, e)
	}
}

// TestTwoVaults (R4): two vaults of one device know nothing of each other but what the blocks hold.
func TestTwoVaults(t *testing.T) {
	d, v := start(t, 5)
	w, _ := New(d, []api.Key{one}, 1, 4)
	a := write(t, v, "a")
	if w.Free() != 3 || w.Seals() != 0 {
		t.Error(w.Free(), w.Seals())
	}
	if s, e := w.Read(a); s != "a" || e != api.OK {
		t.Error("what one start wrote another one reads", s, e)
	}
	b := write(t, w, "b")
	if b.Page != 2 || v.Free() != 2 {
		t.Error(b, v.Free())
	}
	if s, e := v.Read(a); s != "" || e != api.ErrIntegrity {
		t.Error(s, e)
	}
}

// TestAllBlocks (P13.2, P13.4): the greatest device is filled, by rising places, and read again.
func TestAllBlocks(t *testing.T) {
	_, v := start(t, api.MaxBlocks)
	var refs []api.Ref
	for i := range api.MaxBlocks - 2 {
		r := write(t, v, fmt.Sprint(i))
		if r.Page != uint32(i+2) {
			t.Fatal(i, r.Page)
		}
		refs = append(refs, r)
	}
	if _, e := v.Write(""); e != api.ErrFull || v.Free() != 0 || v.Seals() != api.MaxBlocks-2 {
		t.Error(e, v.Free(), v.Seals())
	}
	for i, r := range refs {
		if s, e := v.Read(r); s != fmt.Sprint(i) || e != api.OK {
			t.Fatal(i, s, e)
		}
	}
}

// second is a vault as the chapter tells it, done in another way: flags by places, blocks sealed from the outside.
type second struct {
	d     *device.Device
	ring  []api.Key
	gen   uint32
	seals uint64
	taken []bool
	kept  map[api.Ref]string // what was written and not given since
	nums  map[uint64]bool
}

func (m *second) free() int {
	n := 0
	for _, is := range m.taken {
		if !is {
			n++
		}
	}
	return n
}

// sealed is the block that the next seal makes.
func (m *second) sealed(t *testing.T, p uint32, s string) string {
	t.Helper()
	if m.nums[m.seals] {
		t.Error("a number twice", m.seals)
	}
	m.nums[m.seals] = true
	b, e := seal.Seal(m.ring, api.Head{Page: p, Gen: m.gen, Boot: 8, Seq: m.seals}, s)
	if e != api.OK {
		t.Fatal(e)
	}
	m.seals++
	return b
}

// first is what First says, of the bytes alone.
func (m *second) first(p uint32, tag string) (string, uint32, api.Errno) {
	b, e := m.d.Read(p)
	if e != api.OK {
		return "", 0, e
	}
	says := uint32(b[0]) | uint32(b[1])<<8 | uint32(b[2])<<16 | uint32(b[3])<<24
	if b[len(b)-api.TagSize:] != tag || says != p {
		return "", 0, api.ErrIntegrity
	}
	h, s, e := seal.Open(m.ring, b)
	return s, h.Gen, e
}

// give forgets what stood at p.
func (m *second) give(p uint32) {
	m.taken[p] = false
	for r := range m.kept {
		if r.Page == p {
			delete(m.kept, r)
		}
	}
}

// write does a Write on both, and compares.
func (m *second) write(t *testing.T, v *Vault, s string, dead bool) {
	t.Helper()
	p := slices.Index(m.taken, false)
	r, e := v.Write(s)
	switch {
	case len(s) > api.Content:
		check(t, r == (api.Ref{}) && e == api.ErrPad, "Write: ErrPad", e)
	case p < 0:
		check(t, r == (api.Ref{}) && e == api.ErrFull, "Write: ErrFull", e)
	case dead:
		m.sealed(t, uint32(p), s)
		check(t, r == (api.Ref{}) && e == api.ErrPower, "Write: ErrPower", e)
	default:
		b := m.sealed(t, uint32(p), s)
		check(t, e == api.OK && r == (api.Ref{Page: uint32(p), Tag: b[224:]}), "Write", r, e)
		check(t, m.d.Image()[p] == b, "Write: the block")
		m.taken[p] = true
		m.kept[r] = s
	}
}

// super does a Super on both, and compares.
func (m *second) super(t *testing.T, v *Vault, slot uint32, s string, dead bool) {
	t.Helper()
	tag, e := v.Super(slot, s)
	switch {
	case slot > 1:
		check(t, tag == "" && e == api.ErrArg, "Super: ErrArg", e)
	case len(s) > api.Content:
		check(t, tag == "" && e == api.ErrPad, "Super: ErrPad", e)
	case dead:
		m.sealed(t, slot, s)
		check(t, tag == "" && e == api.ErrPower, "Super: ErrPower", e)
	default:
		b := m.sealed(t, slot, s)
		check(t, e == api.OK && tag == b[224:] && m.d.Image()[slot] == b, "Super", e)
		m.asks(t, v, api.Ref{Page: slot, Tag: tag})
	}
}

func check(t *testing.T, ok bool, what ...any) {
	t.Helper()
	if !ok {
		t.Fatal(what...)
	}
}

// someText is one of all sizes up to those that are refused.
func someText(r *rand.Rand) string {
	b := make([]byte, []int{0, 1, r.Intn(30), r.Intn(api.Content), api.Content, api.Content + 1}[r.Intn(6)])
	r.Read(b)
	return string(b)
}

// takeOrGive does one of both on both, and compares.
func (m *second) takeOrGive(t *testing.T, v *Vault, p uint32, take bool) {
	t.Helper()
	off := p < 2 || int(p) >= len(m.taken)
	if take {
		e := v.Take(p)
		check(t, (e == api.OK) == (!off && !m.taken[p]) && (e == api.OK || e == api.ErrArg), "Take", p, e)
		if e == api.OK {
			m.taken[p] = true
		}
		return
	}
	e := v.Give(p)
	check(t, (e == api.OK) == (!off && m.taken[p]) && (e == api.OK || e == api.ErrArg), "Give", p, e)
	if e == api.OK {
		m.give(p)
	}
}

// asks compares what both say of r, which may be any ref.
func (m *second) asks(t *testing.T, v *Vault, r api.Ref) {
	t.Helper()
	s, gen, e := m.first(r.Page, r.Tag)
	got, f := v.First(r.Page, r.Tag)
	check(t, got == s && f == e, "First", r.Page, got, f, e)
	if r.Page < 2 || len(r.Tag) != api.TagSize {
		s, gen, e = "", 0, api.ErrArg
	}
	got, f = v.Read(r)
	check(t, got == s && f == e, "Read", r.Page, got, f, e)
	g, f := v.Gen(r)
	check(t, g == gen && f == e, "Gen", r.Page, g, f, e)
}

// turn takes another ring, or a wrong one, on both.
func (m *second) turn(t *testing.T, v *Vault, r *rand.Rand) {
	t.Helper()
	rings := [][]api.Key{{one}, {one, two}, {two, five}, {one, two, five, last}, {five, two}, nil}
	ring := rings[r.Intn(len(rings))]
	gen := []uint32{0, 1, 2, 5, math.MaxUint32}[r.Intn(5)]
	want := api.ErrKey
	if len(ring) == 2 && ring[0] == five {
		want = api.ErrRing
	} else if slices.ContainsFunc(ring, func(k api.Key) bool { return k.Gen == gen }) {
		want = api.OK
	}
	e := v.Turn(ring, gen)
	check(t, e == want, "Turn", e, want)
	if e == api.OK {
		m.ring, m.gen = slices.Clone(ring), gen
	}
}

// step does one thing, by chance, on both.
func (m *second) step(t *testing.T, v *Vault, r *rand.Rand, dead bool) {
	t.Helper()
	blocks := len(m.taken)
	p := uint32(r.Intn(blocks + 2))
	switch r.Intn(8) {
	case 0, 1:
		m.write(t, v, someText(r), dead)
	case 2:
		m.super(t, v, uint32(r.Intn(3)), someText(r), dead)
	case 3:
		m.takeOrGive(t, v, p, true)
	case 4:
		m.takeOrGive(t, v, p, false)
	case 5:
		m.turn(t, v, r)
	case 6:
		ref := api.Ref{Page: p, Tag: anyTag}
		if int(p) < blocks {
			ref.Tag = m.d.Image()[p][224+r.Intn(12)/11:]
		}
		m.asks(t, v, ref)
	default:
		for ref := range m.kept { // the order makes no difference: all are asked
			m.asks(t, v, ref)
		}
	}
	check(t, v.Free() == m.free() && v.Seals() == m.seals, "Free, Seals", v.Free(), v.Seals())
}

// TestAgainstSecond (P13.1, P13.2, P13.3, P13.4): many calls by chance, with powers that end and blocks that are bad
// or rewritten, against the same done in another way.
func TestAgainstSecond(t *testing.T) {
	r := rand.New(rand.NewSource(13))
	for range 60 {
		blocks := []int{4, 5, 8, 20}[r.Intn(4)]
		d := disk(t, blocks)
		v, e := New(d, []api.Key{one, two}, 2, 8)
		check(t, e == api.OK, e)
		m := &second{d: d, ring: []api.Key{one, two}, gen: 2, taken: make([]bool, blocks), kept: map[api.Ref]string{}, nums: map[uint64]bool{}}
		m.taken[0], m.taken[1] = true, true
		dead := false
		for range 200 {
			m.step(t, v, r, dead)
			switch p := uint32(r.Intn(blocks)); r.Intn(40) {
			case 0:
				d.Cut(0)
				d.Flush()
				dead = true
			case 1, 2:
				d.Wake([]int{r.Intn(5), r.Intn(5), 4, r.Intn(5)})
				dead = false
			case 3:
				d.Bad(p, r.Intn(2) == 0)
			case 4:
				b := []byte(d.Image()[p])
				b[r.Intn(len(b))] ^= 1 << r.Intn(8)
				d.Put(p, string(b))
			case 5:
				d.Put(p, d.Image()[r.Intn(blocks)])
			}
		}
	}
}

// TestWrittenIsRead (P13.4): on a device that works, what was written is read, whatever is written, given and turned
// behind it, until its own block is given.
func TestWrittenIsRead(t *testing.T) {
	r := rand.New(rand.NewSource(4))
	d, v := start(t, 30)
	kept := map[uint32]string{}
	refs := map[uint32]api.Ref{}
	seqs := map[uint64]bool{}
	for i := range 1200 {
		switch r.Intn(5) {
		case 0, 1:
			s := someText(r)
			if ref, e := v.Write(s); e == api.OK {
				if _, there := kept[ref.Page]; there {
					t.Fatal("written where a page is", ref.Page)
				}
				kept[ref.Page], refs[ref.Page] = s, ref
				head, _ := seal.Get(d.Image()[ref.Page][:api.HeadSize])
				if seqs[head.Seq] {
					t.Fatal("a number twice", head)
				}
				seqs[head.Seq] = true
			}
		case 2:
			p := uint32(r.Intn(30))
			v.Give(p)
			delete(kept, p)
		case 3:
			v.Super(uint32(i%2), "root")
			head, _ := seal.Get(d.Image()[i%2][:api.HeadSize])
			if seqs[head.Seq] {
				t.Fatal("a number twice", head)
			}
			seqs[head.Seq] = true
		default:
			v.Turn([]api.Key{one, two, five}, []uint32{1, 2, 5}[r.Intn(3)])
		}
		for p, s := range kept {
			if got, e := v.Read(refs[p]); got != s || e != api.OK {
				t.Fatal(i, p, e)
			}
		}
	}
}
