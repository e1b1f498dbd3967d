package store

import (
	"math/rand"
	"reflect"
	"slices"
	"strings"
	"testing"
	"unsafe"

	"sphragis/api"
	"sphragis/device"
	"sphragis/root"
	"sphragis/seal"
	"sphragis/vault"
)

const (
	last = api.MaxPlace - 1  // the plane's greatest place
	most = uint64(1<<64 - 1) // the register's greatest count
	ends = uint32(1<<32 - 1) // the greatest count of starts
)

// key is that of a generation.
func key(gen uint32) api.Key {
	return api.Key{Gen: gen, Secret: strings.Repeat(string(rune('a'+gen%26)), api.KeySize)}
}

// ringOf are the keys of generations.
func ringOf(gens ...uint32) []api.Key {
	var out []api.Key
	for _, g := range gens {
		out = append(out, key(g))
	}
	return out
}

func disk(t *testing.T, blocks int) *device.Device {
	t.Helper()
	d, e := device.New(blocks)
	if e != api.OK {
		t.Fatal(e)
	}
	return d
}

// setRegister lets a device's register hold what no test has the time to bring about.
func setRegister(d *device.Device, r api.Register) {
	f := reflect.ValueOf(d).Elem().FieldByName("register")
	reflect.NewAt(f.Type(), unsafe.Pointer(f.UnsafeAddr())).Elem().Set(reflect.ValueOf(r))
}

// copyOf is a device that holds the same, all of it flushed.
func copyOf(t *testing.T, d *device.Device) *device.Device {
	t.Helper()
	out := disk(t, d.Blocks())
	restore(out, d.Image())
	setRegister(out, d.Register())
	return out
}

// restore rewrites a device to an image.
func restore(d *device.Device, image []string) {
	for p, b := range image {
		d.Put(uint32(p), b)
	}
}

// format is a new store on a device, of keys of generations.
func format(t *testing.T, d *device.Device, gens ...uint32) *Store {
	t.Helper()
	s, e := Format(d, ringOf(gens...))
	if e != api.OK || s == nil {
		t.Fatalf("Format: %d", e)
	}
	return s
}

// open is the store on a device.
func open(t *testing.T, d *device.Device, gens ...uint32) *Store {
	t.Helper()
	s, e := Open(d, ringOf(gens...))
	if e != api.OK || s == nil {
		t.Fatalf("Open: %d", e)
	}
	return s
}

// noOpen tells a fault, unless Open answers that error, and no store.
func noOpen(t *testing.T, what any, d *device.Device, ring []api.Key, want api.Errno) {
	t.Helper()
	if s, e := Open(d, ring); s != nil || e != want {
		t.Errorf("%v: Open: %v, %d instead of %d", what, s != nil, e, want)
	}
}

// noFormat tells a fault, unless Format answers that error, and no store.
func noFormat(t *testing.T, what any, d *device.Device, ring []api.Key, want api.Errno) {
	t.Helper()
	if s, e := Format(d, ring); s != nil || e != want {
		t.Errorf("%v: Format: %v, %d instead of %d", what, s != nil, e, want)
	}
}

func row(id uint64, x, y uint32, val string) api.Row {
	return api.Row{Id: id, X: x, Y: y, Val: val}
}

func put(r api.Row) api.Op { return api.Op{Kind: api.OPut, Row: r} }

func drop(id uint64) api.Op { return api.Op{Kind: api.ODelete, Row: api.Row{Id: id}} }

func move(id uint64, x, y uint32) api.Op {
	return api.Op{Kind: api.OMove, Row: api.Row{Id: id, X: x, Y: y}}
}

// puts are changes that put rows.
func puts(l ...api.Row) []api.Op {
	var out []api.Op
	for _, r := range l {
		out = append(out, put(r))
	}
	return out
}

// pile are rows at one point, from an Id on.
func pile(id uint64, count int, x, y uint32) []api.Row {
	var out []api.Row
	for i := range count {
		out = append(out, row(id+uint64(i), x, y, ""))
	}
	return out
}

// corners are rows of which each four are near a corner of their own: a tree of an Inner page and 4 Leafs.
func corners(val string) []api.Row {
	var out []api.Row
	for i := range 16 {
		out = append(out, row(uint64(i+1), uint32(i/4%2)*1000+uint32(i%4), uint32(i/8)*1000, val))
	}
	return out
}

// commit does changes that can be done.
func commit(t *testing.T, s *Store, ops ...api.Op) {
	t.Helper()
	if at, e := s.Commit(ops); at != 0 || e != api.OK {
		t.Fatalf("Commit: %d, %d", at, e)
	}
}

// noCommit tells a fault, unless Commit answers that place and error.
func noCommit(t *testing.T, what any, s *Store, ops []api.Op, place int, want api.Errno) {
	t.Helper()
	if at, e := s.Commit(ops); at != place || e != want {
		t.Errorf("%v: Commit: %d, %d instead of %d, %d", what, at, e, place, want)
	}
}

// rekey seals anew, with so many older pages left.
func rekey(t *testing.T, s *Store, n int, left int) {
	t.Helper()
	if old, e := s.Rekey(n); old != left || e != api.OK {
		t.Fatalf("Rekey(%d): %d, %d instead of %d", n, old, e, left)
	}
}

// noRekey tells a fault, unless Rekey answers that error.
func noRekey(t *testing.T, what any, s *Store, n int, want api.Errno) {
	t.Helper()
	if old, e := s.Rekey(n); old != 0 || e != want {
		t.Errorf("%v: Rekey(%d): %d, %d instead of %d", what, n, old, e, want)
	}
}

// is tells a fault, unless the call answered that error.
func is(t *testing.T, what any, got, want api.Errno) {
	t.Helper()
	if got != want {
		t.Errorf("%v: %d instead of %d", what, got, want)
	}
}

// has tells a fault, unless the store's rows are these, however they are asked for.
func has(t *testing.T, what any, s *Store, want []api.Row) {
	t.Helper()
	if got := s.Rows(); !slices.Equal(got, want) {
		t.Fatalf("%v: rows are %v, not %v", what, got, want)
	}
	for _, r := range want {
		if got, e := s.Get(r.Id); got != r || e != api.OK {
			t.Fatalf("%v: Get(%d): %v, %d", what, r.Id, got, e)
		}
	}
	var all []api.Row
	q := api.Query{Kind: api.QScan, K: 7}
	for more := true; more; {
		var l []api.Row
		var e api.Errno
		if l, more, e = s.Ask(q); e != api.OK {
			t.Fatalf("%v: Ask: %d", what, e)
		}
		all = append(all, l...)
		if more {
			q.From, q.After = true, l[len(l)-1].Id
		}
	}
	if !slices.Equal(all, want) {
		t.Fatalf("%v: Ask gives %v, not %v", what, all, want)
	}
	if n := s.Stats().Rows; n != len(want) {
		t.Fatalf("%v: Stats tell %d rows", what, n)
	}
}

// whole tells a fault, unless the store is as its device has it.
func whole(t *testing.T, what any, s *Store) {
	t.Helper()
	if n, e := s.Scrub(); n != s.Stats().Pages || e != api.OK {
		t.Fatalf("%v: Scrub: %d, %d of %d", what, n, e, s.Stats().Pages)
	}
}

// opens tells a fault, unless a copy of the device opens as these rows.
func opens(t *testing.T, what any, d *device.Device, ring []api.Key, want []api.Row) *Store {
	t.Helper()
	s, e := Open(copyOf(t, d), ring)
	if e != api.OK {
		t.Fatalf("%v: Open: %d", what, e)
	}
	has(t, what, s, want)
	whole(t, what, s)
	return s
}

// heads are those of the blocks at places.
func heads(t *testing.T, d *device.Device, places ...uint32) []api.Head {
	t.Helper()
	image := d.Image()
	var out []api.Head
	for _, p := range places {
		h, ok := seal.Get(image[p][:api.HeadSize])
		if !ok {
			t.Fatalf("no head at %d", p)
		}
		out = append(out, h)
	}
	return out
}

// written are the places of blocks that two images differ in.
func written(a, b []string) []uint32 {
	var out []uint32
	for p := range a {
		if a[p] != b[p] {
			out = append(out, uint32(p))
		}
	}
	return out
}

// hand is a vault that does by hand what a store would do, or would not.
func hand(t *testing.T, d *device.Device, gen uint32, gens ...uint32) *vault.Vault {
	t.Helper()
	v, e := vault.New(d, ringOf(gens...), gen, 1000)
	if e != api.OK {
		t.Fatal(e)
	}
	return v
}

// vouch lets the register vouch for a text, whatever it is, in the slot of the next count.
func vouch(t *testing.T, d *device.Device, v *vault.Vault, text string) {
	t.Helper()
	tag, e := v.Super(root.Slot(d.Register().Counter+1), text)
	if e == api.OK {
		e = d.Flush()
	}
	if e == api.OK {
		e = d.Advance(tag)
	}
	if e != api.OK {
		t.Fatal(e)
	}
}

// rootText are a root's bytes.
func rootText(t *testing.T, r api.Root) string {
	t.Helper()
	s, e := root.Encode(r)
	if e != api.OK {
		t.Fatal(e)
	}
	return s
}

// said is the root that the register of a device vouches for.
func said(t *testing.T, d *device.Device, gens ...uint32) api.Root {
	t.Helper()
	reg := d.Register()
	_, text, e := seal.Open(ringOf(gens...), d.Image()[reg.Counter%2])
	if e != api.OK {
		t.Fatal(e)
	}
	r, e := root.Decode(text)
	if e != api.OK {
		t.Fatal(e)
	}
	return r
}

// fates are what may become of pending blocks.
func fates(r *rand.Rand, n int) []int {
	out := make([]int, n)
	for i := range out {
		out[i] = r.Intn(6)
	}
	return out
}
