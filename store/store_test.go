package store

import (
	"fmt"
	"slices"
	"strings"
	"testing"

	"sphragis/api"
	"sphragis/device"
	"sphragis/rows"
	"sphragis/seal"
)

// TestExample (P16.2, P16.5): the document's: a commit whose power ends is not there, the first one is.
func TestExample(t *testing.T) {
	d := disk(t, 20)
	s := format(t, d, 1)
	first := row(1, 3, 4, "v")
	commit(t, s, put(first))
	d.Cut(1)
	noCommit(t, "cut", s, puts(row(2, 5, 6, "w")), 0, api.ErrPower)
	is(t, "wake", d.Wake(nil), api.OK)
	has(t, "open", open(t, d, 1), []api.Row{first})
}

// TestFormat (P16.1): a store of no rows: one page at the least place, its root in the slot of the next count, both
// sealed with the newest generation and this start, for good, under the register's tag.
func TestFormat(t *testing.T) {
	for _, blocks := range []int{api.MinBlocks, 5, 60, api.MaxBlocks} {
		for _, gens := range [][]uint32{{1}, {7}, {1, 2, 9}, {ends}} {
			d := disk(t, blocks)
			s := format(t, d, gens...)
			newest := gens[len(gens)-1]
			if got := s.Stats(); got != (api.Stats{Pages: 1, Free: blocks - 3, Counter: 1, Gen: newest}) {
				t.Error(blocks, gens, got)
			}
			has(t, "new", s, nil)
			whole(t, "new", s)
			is(t, "wake", d.Wake(nil), api.OK)
			image := d.Image()
			if got := written(image, disk(t, blocks).Image()); !slices.Equal(got, []uint32{1, 2}) {
				t.Error("written", got)
			}
			text, _ := rows.Encode(api.Page{Kind: api.Leaf})
			page, _ := seal.Seal(ringOf(gens...), api.Head{Page: 2, Gen: newest, Boot: 1}, text)
			r := api.Root{Counter: 1, Gen: newest, Tree: api.Ref{Page: 2, Tag: seal.Tag(page)}}
			super, _ := seal.Seal(ringOf(gens...), api.Head{Page: 1, Gen: newest, Boot: 1, Seq: 1}, rootText(t, r))
			if image[1] != super || image[2] != page {
				t.Error(blocks, gens, "other blocks")
			}
			if d.Register() != (api.Register{Counter: 1, Tag: seal.Tag(super), Boots: 1}) {
				t.Error(blocks, gens, d.Register())
			}
		}
	}
}

// TestFormatAgain (P16.1): a store that was there is not any more; the register's counts go on.
func TestFormatAgain(t *testing.T) {
	d := disk(t, 20)
	s := format(t, d, 1)
	commit(t, s, puts(corners("v")...)...)
	s = format(t, d, 3)
	if got := s.Stats(); got != (api.Stats{Pages: 1, Free: 17, Counter: 3, Gen: 3}) {
		t.Error(got)
	}
	if got := heads(t, d, 2, 1); !slices.Equal(got, []api.Head{{Page: 2, Gen: 3, Boot: 2}, {Page: 1, Gen: 3, Boot: 2, Seq: 1}}) {
		t.Error(got)
	}
	has(t, "again", s, nil)
	opens(t, "again", d, ringOf(3), nil)
}

// wrongRings are rings that no store begins with, and what keys.Newest says of them.
func wrongRings() map[string]struct {
	ring []api.Key
	e    api.Errno
} {
	type wrong = struct {
		ring []api.Key
		e    api.Errno
	}
	many := []api.Key{}
	for i := range api.MaxKeys + 1 {
		many = append(many, key(uint32(i+1)))
	}
	return map[string]wrong{
		"nil":            {nil, api.ErrKey},
		"empty":          {[]api.Key{}, api.ErrKey},
		"falling":        {ringOf(2, 1), api.ErrRing},
		"twice":          {ringOf(1, 1), api.ErrRing},
		"generation 0":   {ringOf(0), api.ErrRing},
		"a short secret": {[]api.Key{{Gen: 1, Secret: "a"}}, api.ErrRing},
		"a long secret":  {[]api.Key{{Gen: 1, Secret: strings.Repeat("a", 33)}}, api.ErrRing},
		"too many":       {many, api.ErrRing},
	}
}

// TestBeginOrder (P16.1, R1): of a nil device, then the ring's, then the register's count, then the start's; none of
// the first ones begins a start, or changes the device.
func TestBeginOrder(t *testing.T) {
	for name, w := range wrongRings() {
		noFormat(t, name, nil, w.ring, api.ErrNil)
		noOpen(t, name, nil, w.ring, api.ErrNil)
		for _, count := range []uint64{0, 1, most} {
			d := disk(t, 8)
			setRegister(d, api.Register{Counter: count, Tag: strings.Repeat("t", 32), Boots: ends})
			before := d.Register()
			noFormat(t, name, d, w.ring, w.e)
			noOpen(t, name, d, w.ring, w.e)
			if d.Register() != before || len(written(d.Image(), disk(t, 8).Image())) > 0 {
				t.Error(name, "the device has changed")
			}
		}
	}
	noFormat(t, "nil", nil, ringOf(1), api.ErrNil)
	noOpen(t, "nil", nil, ringOf(1), api.ErrNil)
	for _, boots := range []uint32{0, 5, ends} {
		for _, off := range []bool{false, true} {
			d := disk(t, 8)
			tag := strings.Repeat("t", 32)
			if off {
				d.Cut(0)
				d.Flush()
			}
			setRegister(d, api.Register{Counter: most, Tag: tag, Boots: boots})
			noFormat(t, "at the end", d, ringOf(1), api.ErrExhausted)
			setRegister(d, api.Register{Tag: tag, Boots: boots})
			noOpen(t, "no store", d, ringOf(1), api.ErrFormat)
			if d.Register() != (api.Register{Tag: tag, Boots: boots}) {
				t.Error(boots, off, "a start was begun")
			}
		}
	}
}

// TestStartFails (P16.1): the start's error, ahead of all that is read or written.
func TestStartFails(t *testing.T) {
	for _, bad := range []bool{false, true} {
		d := disk(t, 8)
		format(t, d, 1)
		before := d.Image()
		is(t, "bad", d.Bad(1, bad), api.OK)
		reg := d.Register()
		d.Cut(0)
		noFormat(t, "no power", d, ringOf(1), api.ErrPower)
		noOpen(t, "no power", d, ringOf(1), api.ErrPower)
		if d.Register() != reg {
			t.Error(d.Register())
		}
		is(t, "wake", d.Wake(nil), api.OK)
		reg.Boots = ends
		setRegister(d, reg)
		noFormat(t, "no start", d, ringOf(1), api.ErrExhausted)
		noOpen(t, "no start", d, ringOf(1), api.ErrExhausted)
		if d.Register() != reg || len(written(before, d.Image())) > 0 {
			t.Error("the device has changed")
		}
		reg.Boots--
		setRegister(d, reg)
		is(t, "good", d.Bad(1, false), api.OK)
		opens(t, "the last start", d, ringOf(1), nil)
	}
}

// TestFormatCut (P16.1): the error of whichever operation fails; of six in all. Nothing was published, then.
func TestFormatCut(t *testing.T) {
	for n := range 6 {
		d := disk(t, 8)
		d.Cut(n)
		noFormat(t, n, d, ringOf(1), api.ErrPower)
		if d.Register().Counter != 0 || d.Register().Boots != uint32(min(n, 1)) {
			t.Error(n, d.Register())
		}
		is(t, n, d.Wake([]int{4, 4}), api.OK)
		noOpen(t, n, d, ringOf(1), api.ErrFormat)
		format(t, d, 1)
		opens(t, n, d, ringOf(1), nil)
	}
	d := disk(t, 8)
	d.Cut(6)
	format(t, d, 1)
	is(t, "behind the sixth", d.Flush(), api.ErrPower)
}

// TestNoRoom (P16.1): a device of no blocks has room for no page, and no store.
func TestNoRoom(t *testing.T) {
	d := &device.Device{}
	noFormat(t, "no blocks", d, ringOf(1), api.ErrFull)
	noOpen(t, "no blocks", d, ringOf(1), api.ErrFormat)
}

// TestOpen (P16.1): a store is opened as it was, its pages taken, with a start of its own; reading changes no block.
func TestOpen(t *testing.T) {
	d := disk(t, 40)
	s := format(t, d, 1, 4)
	commit(t, s, puts(corners("v")...)...)
	commit(t, s, drop(3), move(5, last, last), put(row(99, 7, 7, "w")))
	want, before := s.Stats(), d.Image()
	for i := range 3 {
		o := open(t, d, 1, 4)
		has(t, "open", o, s.Rows())
		if o.Stats() != want {
			t.Error(o.Stats(), want)
		}
		if d.Register().Boots != uint32(i+2) || len(written(before, d.Image())) > 0 {
			t.Error(d.Register(), "the device has changed")
		}
	}
	o := open(t, d, 1, 4)
	commit(t, o, put(row(1, 0, 0, "x")))
	for _, p := range written(before, d.Image()) {
		if h := heads(t, d, p)[0]; h.Page != p || h.Gen != 4 || h.Boot != 5 {
			t.Error(h)
		}
	}
	has(t, "behind", o, opens(t, "behind", d, ringOf(4), o.Rows()).Rows())
}

// TestOpenGen (P16.1): it is sealed with the root's generation, whatever newer keys the ring has; all that the ring has
// count for what is older.
func TestOpenGen(t *testing.T) {
	d := disk(t, 20)
	commit(t, format(t, d, 3), puts(corners("v")...)...)
	for _, c := range []struct {
		gens []uint32
		old  int
	}{{[]uint32{3}, 0}, {[]uint32{1, 3}, 0}, {[]uint32{3, 8}, 5}, {[]uint32{2, 3, 5, ends}, 5}} {
		d := copyOf(t, d)
		s := open(t, d, c.gens...)
		if got := s.Stats(); got.Gen != 3 || got.Old != c.old || got.Pages != 5 {
			t.Error(c.gens, got)
		}
		commit(t, s, put(row(1, 0, 0, "w")))
		if got := said(t, d, 3); got.Gen != 3 || got.Counter != 3 {
			t.Error(got)
		}
		if got := s.Stats(); got.Gen != 3 || got.Old != c.old {
			t.Error(c.gens, got)
		}
	}
}

// TestOpenSuper (P16.1): the errors of the superblock.
func TestOpenSuper(t *testing.T) {
	d := disk(t, 20)
	s := format(t, d, 2)
	commit(t, s, puts(corners("v")...)...)
	slot := uint32(d.Register().Counter % 2)
	for name, c := range map[string]struct {
		meddle func(d *device.Device)
		gens   []uint32
		want   api.Errno
	}{
		"bad":         {func(d *device.Device) { d.Bad(slot, true) }, []uint32{2}, api.ErrIO},
		"the other":   {func(d *device.Device) { d.Put(slot, d.Image()[1-slot]) }, []uint32{2}, api.ErrIntegrity},
		"a page":      {func(d *device.Device) { d.Put(slot, d.Image()[2]) }, []uint32{2}, api.ErrIntegrity},
		"nothing":     {func(d *device.Device) { d.Put(slot, strings.Repeat("\x00", 256)) }, []uint32{2}, api.ErrIntegrity},
		"another tag": {func(d *device.Device) { d.Advance(strings.Repeat("t", 32)); d.Advance(strings.Repeat("t", 32)) }, []uint32{2}, api.ErrIntegrity},
		"another key": {func(d *device.Device) {}, []uint32{1, 3}, api.ErrKey},
		"swapped": {func(d *device.Device) {
			d.Put(1-slot, d.Image()[slot])
			d.Advance(d.Register().Tag)
		}, []uint32{2}, api.ErrIntegrity},
	} {
		d := copyOf(t, d)
		c.meddle(d)
		noOpen(t, name, d, ringOf(c.gens...), c.want)
	}
	noOpen(t, "another secret", copyOf(t, d), []api.Key{{Gen: 2, Secret: strings.Repeat("z", 32)}}, api.ErrIntegrity)
	for name, meddle := range map[string]func(d *device.Device){
		"bad":  func(d *device.Device) { d.Bad(1-slot, true) },
		"lost": func(d *device.Device) { d.Put(1-slot, strings.Repeat("x", 256)) },
	} {
		d := copyOf(t, d)
		meddle(d)
		has(t, name, open(t, d, 2), s.Rows())
	}
}

// TestOpenRoot (P16.1): what a register vouches for must be a root of its count; the ring must have its generation,
// ahead of its tree; and there must be as many rows as it says, behind that.
func TestOpenRoot(t *testing.T) {
	base := disk(t, 20)
	commit(t, format(t, base, 2), put(row(1, 2, 3, "v")))
	good := said(t, base, 2)
	good.Counter++
	lost := api.Ref{Page: 9, Tag: strings.Repeat("t", 32)}
	for name, c := range map[string]struct {
		text string
		want api.Errno
	}{
		"good":                  {rootText(t, good), api.OK},
		"empty":                 {"", api.ErrIntegrity},
		"cut":                   {rootText(t, good)[:55], api.ErrIntegrity},
		"longer":                {rootText(t, good) + "\x00", api.ErrIntegrity},
		"of the count ahead":    {rootText(t, api.Root{Counter: 2, Gen: 2, Rows: 1, Tree: good.Tree}), api.ErrIntegrity},
		"of a later count":      {rootText(t, api.Root{Counter: 5, Gen: 2, Rows: 1, Tree: good.Tree}), api.ErrIntegrity},
		"of a far count":        {rootText(t, api.Root{Counter: 3 + 1<<32, Gen: 2, Rows: 1, Tree: good.Tree}), api.ErrIntegrity},
		"of that, without key":  {rootText(t, api.Root{Counter: 2, Gen: 7, Rows: 1, Tree: good.Tree}), api.ErrIntegrity},
		"without key":           {rootText(t, api.Root{Counter: 3, Gen: 7, Rows: 1, Tree: good.Tree}), api.ErrKey},
		"without key, no tree":  {rootText(t, api.Root{Counter: 3, Gen: 7, Rows: 1, Tree: lost}), api.ErrKey},
		"without key, few rows": {rootText(t, api.Root{Counter: 3, Gen: 7, Tree: good.Tree}), api.ErrKey},
		"no tree":               {rootText(t, api.Root{Counter: 3, Gen: 2, Rows: 1, Tree: lost}), api.ErrIntegrity},
		"tree past the end":     {rootText(t, api.Root{Counter: 3, Gen: 2, Rows: 1, Tree: api.Ref{Page: 20, Tag: good.Tree.Tag}}), api.ErrArg},
		"bad tree, no rows":     {rootText(t, api.Root{Counter: 3, Gen: 2, Tree: api.Ref{Page: 8, Tag: good.Tree.Tag}}), api.ErrIO},
		"few rows":              {rootText(t, api.Root{Counter: 3, Gen: 2, Tree: good.Tree}), api.ErrIntegrity},
		"many rows":             {rootText(t, api.Root{Counter: 3, Gen: 2, Rows: 2, Tree: good.Tree}), api.ErrIntegrity},
		"another key's":         {rootText(t, api.Root{Counter: 3, Gen: 4, Rows: 1, Tree: good.Tree}), api.OK},
	} {
		d := copyOf(t, base)
		is(t, name, d.Bad(8, true), api.OK)
		vouch(t, d, hand(t, d, 2, 2), c.text)
		boots := d.Register().Boots
		s, e := Open(d, ringOf(2, 4))
		if e != c.want || (s != nil) != (e == api.OK) {
			t.Errorf("%s: %d instead of %d", name, e, c.want)
		}
		if d.Register().Boots != boots+1 {
			t.Error(name, "no start, or several")
		}
		if s != nil {
			has(t, name, s, []api.Row{row(1, 2, 3, "v")})
			if got, want := s.Stats().Gen, said(t, d, 2).Gen; got != want {
				t.Error(name, "sealed with", got, want)
			}
		}
	}
}

// TestOpenOldRoot (P16.1): a root that the register vouches for once more, behind later counts, is of another count.
func TestOpenOldRoot(t *testing.T) {
	d := disk(t, 20)
	s := format(t, d, 1)
	commit(t, s, put(row(1, 2, 3, "v")))
	tag := d.Register().Tag
	is(t, "advance", d.Advance(tag), api.OK)
	noOpen(t, "the other slot", copyOf(t, d), ringOf(1), api.ErrIntegrity)
	is(t, "advance", d.Advance(tag), api.OK)
	noOpen(t, "its slot", d, ringOf(1), api.ErrIntegrity)
}

// TestOpenTree (P16.1): the errors of loading the tree, of each page.
func TestOpenTree(t *testing.T) {
	base := disk(t, 20)
	s := format(t, base, 1)
	commit(t, s, puts(corners("v")...)...)
	is(t, "key", s.AddKey(key(2)), api.OK)
	rekey(t, s, 2, 2)
	var pages []uint32
	for _, p := range s.pages {
		pages = append(pages, p.Ref.Page)
	}
	for _, p := range pages {
		d := copyOf(t, base)
		is(t, "bad", d.Bad(p, true), api.OK)
		noOpen(t, p, d, ringOf(1, 2), api.ErrIO)
		for i := 0; i < api.Block; i += 5 {
			d := copyOf(t, base)
			b := []byte(d.Image()[p])
			b[i] ^= 1
			is(t, "put", d.Put(p, string(b)), api.OK)
			if s, e := Open(d, ringOf(1, 2)); s != nil || e != api.ErrIntegrity && e != api.ErrKey {
				t.Error(p, i, e)
			}
		}
	}
	noOpen(t, "without the older key", copyOf(t, base), ringOf(2), api.ErrKey)
	noOpen(t, "without the newer key", copyOf(t, base), ringOf(1), api.ErrKey)
	for p := range uint32(20) {
		if p >= 2 && !slices.Contains(pages, p) {
			is(t, "free", base.Bad(p, true), api.OK)
		}
	}
	has(t, "free blocks bad", open(t, base, 1, 2), s.Rows())
}

// TestCommit (P16.2): changes are there behind a commit; each counts one, whether it changes rows or not.
func TestCommit(t *testing.T) {
	d := disk(t, 40)
	s := format(t, d, 1)
	a, b, c := row(5, 1, 2, "a"), row(2, last, 0, ""), row(most, 0, last, strings.Repeat("\xff", 16))
	for i, step := range []struct {
		ops  []api.Op
		want []api.Row
	}{
		{puts(a), []api.Row{a}},
		{puts(b, c), []api.Row{b, a, c}},
		{puts(a), []api.Row{b, a, c}},
		{[]api.Op{move(2, 9, 9)}, []api.Row{row(2, 9, 9, ""), a, c}},
		{[]api.Op{drop(5), put(row(5, 0, 0, "z"))}, []api.Row{row(2, 9, 9, ""), row(5, 0, 0, "z"), c}},
		{[]api.Op{drop(5), drop(2), drop(most)}, nil},
		{[]api.Op{put(a), drop(5)}, nil},
		{puts(pile(0, 64, 7, 7)...), pile(0, 64, 7, 7)},
	} {
		commit(t, s, step.ops...)
		has(t, i, s, step.want)
		whole(t, i, s)
		if got := s.Stats().Counter; got != uint64(i+2) || got != d.Register().Counter {
			t.Error(i, got)
		}
		before := d.Image()
		is(t, "wake", d.Wake(nil), api.OK)
		if len(written(before, d.Image())) > 0 {
			t.Error(i, "something was not flushed")
		}
		if o := opens(t, i, d, ringOf(1), step.want); o.Stats() != s.Stats() {
			t.Error(i, o.Stats(), s.Stats())
		}
	}
}

// TestCommitWrites (P16.2): pages that did not change stay; those that changed are at the least places that were free,
// and their blocks are given behind the commit; the root has the other slot.
func TestCommitWrites(t *testing.T) {
	d := disk(t, 20)
	s := format(t, d, 1)
	commit(t, s, puts(corners("v")...)...) // leafs at 3, 4, 5, 6, the Inner page at 7; 2 is free again
	if got := s.Stats(); got != (api.Stats{Rows: 16, Pages: 5, Free: 13, Counter: 2, Gen: 1}) {
		t.Error(got)
	}
	before := d.Image()
	commit(t, s, put(row(5, 1000, 0, "w"))) // its leaf at 2, the Inner page at 8
	if got := written(before, d.Image()); !slices.Equal(got, []uint32{1, 2, 8}) {
		t.Error(got)
	}
	if got := s.Stats(); got != (api.Stats{Rows: 16, Pages: 5, Free: 13, Counter: 3, Gen: 1}) {
		t.Error(got)
	}
	before = d.Image()
	commit(t, s, put(row(1, 0, 0, "w"))) // at 4 and 7, which were given
	if got := written(before, d.Image()); !slices.Equal(got, []uint32{0, 4, 7}) {
		t.Error(got)
	}
	if got := heads(t, d, 4, 7, 0); !slices.Equal(got, []api.Head{
		{Page: 4, Gen: 1, Boot: 1, Seq: 11}, {Page: 7, Gen: 1, Boot: 1, Seq: 12}, {Page: 0, Gen: 1, Boot: 1, Seq: 13}}) {
		t.Error(got)
	}
	before = d.Image()
	commit(t, s, move(1, 0, 0)) // as it was: a root alone
	if got := written(before, d.Image()); !slices.Equal(got, []uint32{1}) {
		t.Error(got)
	}
	if r := said(t, d, 1); r.Counter != 5 || r.Gen != 1 || r.Rows != 16 || r.Tree.Page != 7 {
		t.Error(r)
	}
}

// TestCommitWrong (P16.2): the batch's place and error, ahead of the register's end; nothing is changed, or written.
func TestCommitWrong(t *testing.T) {
	d := disk(t, 20)
	s := format(t, d, 1)
	a := row(1, 2, 3, "v")
	commit(t, s, put(a))
	want, before := s.Stats(), d.Image()
	for range 2 { // the second time at the register's end
		for name, c := range map[string]struct {
			ops   []api.Op
			place int
			e     api.Errno
		}{
			"nil":           {nil, 0, api.ErrBatch},
			"empty":         {[]api.Op{}, 0, api.ErrBatch},
			"too many":      {puts(pile(1, 65, 0, 0)...), 0, api.ErrBatch},
			"no kind":       {[]api.Op{{}}, 0, api.ErrArg},
			"another kind":  {[]api.Op{put(a), {Kind: 4}}, 1, api.ErrArg},
			"off the plane": {puts(a, a, row(9, api.MaxPlace, 0, "")), 2, api.ErrRow},
			"long value":    {puts(row(9, 0, 0, strings.Repeat("v", 17))), 0, api.ErrRow},
			"moved off":     {[]api.Op{move(1, 0, api.MaxPlace)}, 0, api.ErrRow},
			"move of none":  {[]api.Op{put(a), move(2, 0, 0)}, 1, api.ErrNone},
			"delete twice":  {[]api.Op{drop(1), drop(1)}, 1, api.ErrNone},
		} {
			noCommit(t, name, s, c.ops, c.place, c.e)
		}
		has(t, "behind", s, []api.Row{a})
		if s.Stats() != want || len(written(before, d.Image())) > 0 {
			t.Error("something was changed")
		}
		reg := d.Register()
		reg.Counter = most
		setRegister(d, reg)
		want.Counter = most
	}
	noCommit(t, "at the end", s, puts(a), 0, api.ErrExhausted)
}

// TestMany (P16.2): as many rows as may be, and no more.
func TestMany(t *testing.T) {
	d := disk(t, 2200)
	s := format(t, d, 1)
	for id := uint64(0); id < api.MaxRows; id += 50 {
		var ops []api.Op
		for i := range uint64(50) {
			ops = append(ops, put(row(id+i, uint32(id+i)%32*1000, uint32(id+i)/32*1000, "v")))
		}
		commit(t, s, ops...)
	}
	noCommit(t, "one more", s, puts(row(1000, 0, 0, "")), 0, api.ErrMany)
	noCommit(t, "one more", s, []api.Op{drop(0), put(row(1000, 0, 0, "")), put(row(1001, 0, 0, ""))}, 2, api.ErrMany)
	commit(t, s, drop(0), put(row(1000, 0, 0, "")))
	if got := s.Stats(); got.Rows != api.MaxRows || got.Counter != 22 {
		t.Error(got)
	}
	opens(t, "many", d, ringOf(1), s.Rows())
}

// TestExhausted (P16.1, P16.2, P16.4): the last count is reached, and stays readable; nothing is written behind it.
func TestExhausted(t *testing.T) {
	d := disk(t, 20)
	setRegister(d, api.Register{Counter: most - 3, Tag: strings.Repeat("t", 32)})
	s := format(t, d, 1)
	commit(t, s, put(row(1, 2, 3, "v")))
	is(t, "key", s.AddKey(key(2)), api.OK)
	rekey(t, s, 1, 0)
	if got := d.Register().Counter; got != most || s.Stats().Counter != most {
		t.Fatal(got)
	}
	before, reg := d.Image(), d.Register()
	want := s.Stats()
	for range 2 {
		noCommit(t, "at the end", s, puts(row(2, 0, 0, "")), 0, api.ErrExhausted)
		rekey(t, s, 1, 0) // nothing to do
	}
	is(t, "key", s.AddKey(key(3)), api.OK)
	noRekey(t, "at the end", s, 0, api.ErrArg)
	noRekey(t, "at the end", s, 1, api.ErrExhausted)
	is(t, "the key is not sealed with", s.DropKey(3), api.OK)
	if s.Stats() != want || d.Register() != reg || len(written(before, d.Image())) > 0 {
		t.Error("something was changed", s.Stats())
	}
	whole(t, "at the end", s)
	noFormat(t, "at the end", d, ringOf(1), api.ErrExhausted)
	has(t, "at the end", open(t, d, 2), []api.Row{row(1, 2, 3, "v")})
}

// TestFull (P16.2): without room all stays as it was: rows, pages, room, and that there are commits.
func TestFull(t *testing.T) {
	d := disk(t, 9)
	s := format(t, d, 1)
	commit(t, s, puts(corners("v")...)...)
	want, l := s.Stats(), s.Rows()
	if want.Free != 2 {
		t.Fatal(want)
	}
	held := d.Image()
	for i := range 3 {
		noCommit(t, i, s, puts(corners("w")...), 0, api.ErrFull)
		has(t, i, s, l)
		whole(t, i, s)
		if s.Stats() != want {
			t.Error(s.Stats(), want)
		}
		for _, p := range written(held, d.Image()) {
			if slices.ContainsFunc(s.pages, func(s api.Saved) bool { return s.Ref.Page == p }) || p < 2 {
				t.Error("written over", p)
			}
		}
		opens(t, i, d, ringOf(1), l)
	}
	is(t, "key", s.AddKey(key(2)), api.OK)
	is(t, "key", s.DropKey(2), api.OK)
	commit(t, s, put(row(1, 0, 0, "w"))) // two pages: as many as there is room for
	l[0].Val = "w"
	has(t, "behind", s, l)
	opens(t, "behind", d, ringOf(1), l)
}

// TestFullSmall (P16.2): on the least device one page takes turns with the other one.
func TestFullSmall(t *testing.T) {
	d := disk(t, api.MinBlocks)
	s := format(t, d, 1)
	for i := range 5 {
		commit(t, s, put(row(uint64(i%4), uint32(i), 0, "v")))
		noCommit(t, i, s, puts(pile(10, 5, 0, 0)...), 0, api.ErrFull)
		opens(t, i, d, ringOf(1), s.Rows())
		if got := s.Stats(); got.Free != 1 || got.Pages != 1 {
			t.Error(got)
		}
	}
}

// TestAnswers (P16.2, R3): what is answered is the caller's own; what was handed in is not kept.
func TestAnswers(t *testing.T) {
	d := disk(t, 20)
	ring := append(make([]api.Key, 0, 8), ringOf(1)...)
	s, e := Format(d, ring)
	is(t, "format", e, api.OK)
	want := corners("v")
	ops := append(make([]api.Op, 0, 40), puts(want...)...)
	commit(t, s, ops...)
	ring[0].Secret = "meddled"
	for i := range ops {
		ops[i] = api.Op{}
	}
	_ = append(ring[:0], api.Key{}, api.Key{})
	has(t, "behind", s, want)
	spoil := func(l []api.Row) {
		l = l[:cap(l)]
		for i := range l {
			l[i] = row(77, 7, 7, "meddled")
		}
	}
	l, _, _ := s.Ask(api.Query{Kind: api.QNear, K: 16})
	spoil(l)
	l, _, _ = s.Ask(api.Query{Kind: api.QScan, K: 16})
	spoil(l)
	spoil(s.Rows())
	has(t, "behind", s, want)
	whole(t, "behind", s)
	ring = append(make([]api.Key, 0, 8), ringOf(1)...)
	s, e = Open(d, ring)
	is(t, "open", e, api.OK)
	_ = append(ring[:0], key(5), key(6))
	is(t, "key", s.AddKey(key(2)), api.OK)
	whole(t, "behind", s)
	commit(t, s, drop(1))
	has(t, "behind", s, want[1:])
}

// TestGetAsk (P16.2): as plain and find tell of the rows.
func TestGetAsk(t *testing.T) {
	d := disk(t, 20)
	s := format(t, d, 1)
	commit(t, s, puts(corners("v")...)...)
	if r, e := s.Get(17); r != (api.Row{}) || e != api.ErrNone {
		t.Error(r, e)
	}
	for name, c := range map[string]struct {
		q    api.Query
		ids  []uint64
		more bool
		e    api.Errno
	}{
		"scan":   {api.Query{Kind: api.QScan, K: 2}, []uint64{1, 2}, true, api.OK},
		"behind": {api.Query{Kind: api.QScan, K: 2, From: true, After: 14}, []uint64{15, 16}, false, api.OK},
		"window": {api.Query{Kind: api.QWindow, K: 9, Box: api.Box{X0: 1000, X1: last, Y1: 999}}, []uint64{5, 6, 7, 8}, false, api.OK},
		"round":  {api.Query{Kind: api.QRound, K: 9, X: 1000, Y: 1000, Square: 1}, []uint64{13, 14}, false, api.OK},
		"near":   {api.Query{Kind: api.QNear, K: 3, X: 3}, []uint64{4, 3, 2}, true, api.OK},
		"none":   {api.Query{Kind: 5, K: 3}, nil, false, api.ErrArg},
		"many":   {api.Query{Kind: api.QScan}, nil, false, api.ErrMany},
		"no box": {api.Query{Kind: api.QWindow, K: 1, Box: api.Box{X0: 1}}, nil, false, api.ErrBox},
	} {
		l, more, e := s.Ask(c.q)
		var ids []uint64
		for _, r := range l {
			ids = append(ids, r.Id)
		}
		if !slices.Equal(ids, c.ids) || more != c.more || e != c.e {
			t.Error(name, ids, more, e)
		}
	}
}

// TestNil (P16.2, R4): of no store, and of one that no call gave.
func TestNil(t *testing.T) {
	for name, s := range map[string]*Store{"nil": nil, "empty": {}} {
		if s.Rows() != nil || s.Stats() != (api.Stats{}) {
			t.Error(name, s.Rows(), s.Stats())
		}
		if r, e := s.Get(1); r != (api.Row{}) || e != api.ErrNil {
			t.Error(name, r, e)
		}
		if l, more, e := s.Ask(api.Query{}); l != nil || more || e != api.ErrNil {
			t.Error(name, l, more, e)
		}
		if n, e := s.Scrub(); n != 0 || e != api.ErrNil {
			t.Error(name, n, e)
		}
		noCommit(t, name, s, nil, 0, api.ErrNil)
		noRekey(t, name, s, 0, api.ErrNil)
		is(t, name, s.AddKey(api.Key{}), api.ErrNil)
		is(t, name, s.DropKey(0), api.ErrNil)
	}
}

// TestScrub (P16.3): the errors of the superblock, of the tree, and of rows and pages that are not the store's; none of
// them poisons.
func TestScrub(t *testing.T) {
	base := disk(t, 20)
	commit(t, format(t, base, 1), puts(corners("v")...)...)
	slot := uint32(base.Register().Counter % 2)
	for name, c := range map[string]struct {
		meddle func(d *device.Device)
		want   api.Errno
	}{
		"nothing":             {func(*device.Device) {}, api.OK},
		"free":                {func(d *device.Device) { d.Bad(2, true); d.Put(9, d.Image()[3]); d.Bad(1-slot, true) }, api.OK},
		"bad root":            {func(d *device.Device) { d.Bad(slot, true) }, api.ErrIO},
		"bad root, lost page": {func(d *device.Device) { d.Bad(slot, true); d.Put(3, d.Image()[4]) }, api.ErrIO},
		"lost root, bad page": {func(d *device.Device) { d.Put(slot, d.Image()[3]); d.Bad(3, true) }, api.ErrIntegrity},
		"bad page":            {func(d *device.Device) { d.Bad(5, true) }, api.ErrIO},
		"lost page":           {func(d *device.Device) { d.Put(6, d.Image()[5]) }, api.ErrIntegrity},
		"no power":            {func(d *device.Device) { d.Cut(0); d.Flush() }, api.ErrPower},
		"another tag":         {func(d *device.Device) { d.Advance(strings.Repeat("t", 32)) }, api.ErrIntegrity},
		"no root":             {func(d *device.Device) { vouch(t, d, hand(t, d, 1, 1), "no root") }, api.ErrIntegrity},
		"other rows":          {func(d *device.Device) { commit(t, open(t, d, 1), drop(3)) }, api.ErrIntegrity},
		"other pages": {func(d *device.Device) {
			s := open(t, d, 1)
			commit(t, s, put(row(1, 0, 0, "w")))
			commit(t, s, put(row(1, 0, 0, "v")))
		}, api.ErrIntegrity},
		"another key": {func(d *device.Device) {
			s := open(t, d, 1)
			is(t, "key", s.AddKey(key(2)), api.OK)
			rekey(t, s, 5, 0)
		}, api.ErrKey},
	} {
		d := copyOf(t, base)
		s := open(t, d, 1)
		c.meddle(d)
		n, e := s.Scrub()
		if e != c.want || n != 0 && e != api.OK || n != 5 && e == api.OK {
			t.Errorf("%s: %d, %d instead of %d", name, n, e, c.want)
		}
		if e := s.AddKey(key(9)); e != api.OK {
			t.Error(name, "poisoned", e)
		}
		has(t, name, s, corners("v"))
	}
}

// TestStats (P16.3): the count is the register's, whoever advanced it.
func TestStats(t *testing.T) {
	d := disk(t, 20)
	s := format(t, d, 4)
	for i := range 3 {
		if got := s.Stats(); got != (api.Stats{Pages: 1, Free: 17, Counter: uint64(i + 1), Gen: 4}) {
			t.Error(got)
		}
		is(t, "advance", d.Advance(strings.Repeat("t", 32)), api.OK)
	}
	d.Cut(0)
	d.Flush()
	if got := s.Stats(); got != (api.Stats{Pages: 1, Free: 17, Counter: 4, Gen: 4}) {
		t.Error("without power", got)
	}
	has(t, "without power", s, nil)
}

// TestTwoDevices (R4): what a store answers hangs on its own device alone.
func TestTwoDevices(t *testing.T) {
	var stores []*Store
	var devices []*device.Device
	for i := range 3 {
		d := disk(t, 10+i)
		devices = append(devices, d)
		stores = append(stores, format(t, d, 1))
	}
	for i, s := range stores {
		commit(t, s, put(row(uint64(i), uint32(i), 0, fmt.Sprint(i))))
	}
	for i, s := range stores {
		has(t, i, s, []api.Row{row(uint64(i), uint32(i), 0, fmt.Sprint(i))})
		opens(t, i, devices[i], ringOf(1), s.Rows())
	}
}
