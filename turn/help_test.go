package turn

import (
	"math/rand"
	"reflect"
	"slices"
	"strings"
	"testing"
	"unsafe"

	"sphragis/api"
	"sphragis/device"
	"sphragis/seal"
	"sphragis/store"
)

const most = uint64(1<<64 - 1) // the register's greatest count

// key is that of a generation.
func key(gen uint32) api.Key {
	return api.Key{Gen: gen, Secret: strings.Repeat(string(rune('a'+gen%26)), api.KeySize)}
}

// ringOf are the keys of generations.
func ringOf(gens ...uint32) []api.Key {
	var out []api.Key
	for _, g := range gens {
		out = append(out, key(g))
	}
	return out
}

func disk(t *testing.T, blocks int) *device.Device {
	t.Helper()
	d, e := device.New(blocks)
	if e != api.OK {
		t.Fatal(e)
	}
	return d
}

// setRegister lets a device's register hold what no test has the time to bring about.
func setRegister(d *device.Device, r api.Register) {
	f := reflect.ValueOf(d).Elem().FieldByName("register")
	reflect.NewAt(f.Type(), unsafe.Pointer(f.UnsafeAddr())).Elem().Set(reflect.ValueOf(r))
}

// copyOf is a device that holds the same, all of it flushed.
func copyOf(t *testing.T, d *device.Device) *device.Device {
	t.Helper()
	out := disk(t, d.Blocks())
	for p, b := range d.Image() {
		out.Put(uint32(p), b)
	}
	setRegister(out, d.Register())
	return out
}

// open is the store on a device.
func open(t *testing.T, d *device.Device, gens ...uint32) *store.Store {
	t.Helper()
	s, e := store.Open(d, ringOf(gens...))
	if e != api.OK {
		t.Fatalf("Open: %d", e)
	}
	return s
}

func row(id uint64, x, y uint32, val string) api.Row {
	return api.Row{Id: id, X: x, Y: y, Val: val}
}

func put(r api.Row) api.Op { return api.Op{Kind: api.OPut, Row: r} }

func drop(id uint64) api.Op { return api.Op{Kind: api.ODelete, Row: api.Row{Id: id}} }

// puts are changes that put rows.
func puts(l []api.Row) []api.Op {
	var out []api.Op
	for _, r := range l {
		out = append(out, put(r))
	}
	return out
}

// pile are rows at one point: leafs one behind the other.
func pile(count int) []api.Row {
	var out []api.Row
	for i := range count {
		out = append(out, row(uint64(i+1), 7, 7, "p"))
	}
	return out
}

// corners are rows of which each four are near a corner of their own: a tree of an Inner page and 4 Leafs.
func corners(val string) []api.Row {
	var out []api.Row
	for i := range 16 {
		out = append(out, row(uint64(i+1), uint32(i/4%2)*1000+uint32(i%4), uint32(i/8)*1000, val))
	}
	return out
}

// scattered are rows far from each other.
func scattered(count int) []api.Row {
	r := rand.New(rand.NewSource(int64(count)))
	var out []api.Row
	for i := range count {
		out = append(out, row(uint64(i+1), r.Uint32()>>1, r.Uint32()>>1, "s"))
	}
	return out
}

// commit does changes that can be done.
func commit(t *testing.T, s *store.Store, ops ...api.Op) {
	t.Helper()
	for some := range slices.Chunk(ops, api.MaxBatch) {
		if at, e := s.Commit(some); at != 0 || e != api.OK {
			t.Fatalf("Commit: %d, %d", at, e)
		}
	}
}

// filled is a device with a store of rows, sealed with a generation.
func filled(t *testing.T, blocks int, gen uint32, l []api.Row) *device.Device {
	t.Helper()
	d := disk(t, blocks)
	s, e := store.Format(d, ringOf(gen))
	if e != api.OK {
		t.Fatalf("Format: %d", e)
	}
	commit(t, s, puts(l)...)
	return d
}

// tree is a store of 16 rows on 5 pages, sealed with generation 1.
func tree(t *testing.T, blocks int) (*device.Device, *store.Store) {
	t.Helper()
	d := filled(t, blocks, 1, corners("v"))
	return d, open(t, d, 1)
}

// turner is a new turner.
func turner(t *testing.T, s *store.Store, pace int) *Turner {
	t.Helper()
	u, e := New(s, pace)
	if u == nil || e != api.OK {
		t.Fatalf("New: %v, %d", u, e)
	}
	return u
}

// begin begins a turn to the key of a generation.
func begin(t *testing.T, u *Turner, gen uint32) {
	t.Helper()
	if e := u.Begin(key(gen)); e != api.OK {
		t.Fatalf("Begin(%d): %d", gen, e)
	}
}

// is tells a fault, unless the call answered that error.
func is(t *testing.T, what any, got, want api.Errno) {
	t.Helper()
	if got != want {
		t.Errorf("%v: %d instead of %d", what, got, want)
	}
}

// isOn tells a fault, unless a turn is on, or is not.
func isOn(t *testing.T, what any, u *Turner, want bool) {
	t.Helper()
	if got := u.On(); got != want {
		t.Errorf("%v: On: %v, with %+v", what, got, u.Stats())
	}
}

// step tells a fault, unless Step answers that.
func step(t *testing.T, what any, u *Turner, on bool, want api.Errno) {
	t.Helper()
	if got, e := u.Step(); got != on || e != want {
		t.Errorf("%v: Step: %v, %d instead of %v, %d", what, got, e, on, want)
	}
}

// all tells a fault, unless All answers that.
func all(t *testing.T, what any, u *Turner, most int, done int, want api.Errno) {
	t.Helper()
	if got, e := u.All(most); got != done || e != want {
		t.Errorf("%v: All(%d): %d, %d instead of %d, %d", what, most, got, e, done, want)
	}
}

// stats tells a fault, unless the store seals with gen, and has so many older pages.
func stats(t *testing.T, what any, s *store.Store, gen uint32, old int) {
	t.Helper()
	if got := s.Stats(); got.Gen != gen || got.Old != old {
		t.Errorf("%v: %+v, not of generation %d with %d older", what, got, gen, old)
	}
}

// whole tells a fault, unless the store has these rows, and is as its device has it.
func whole(t *testing.T, what any, s *store.Store, want []api.Row) {
	t.Helper()
	if got := s.Rows(); !slices.Equal(got, want) {
		t.Fatalf("%v: rows are %v, not %v", what, got, want)
	}
	if n, e := s.Scrub(); n != s.Stats().Pages || e != api.OK {
		t.Fatalf("%v: Scrub: %d, %d of %d", what, n, e, s.Stats().Pages)
	}
}

// opens tells a fault, unless a copy of the device opens as these rows.
func opens(t *testing.T, what any, d *device.Device, want []api.Row, gens ...uint32) {
	t.Helper()
	whole(t, what, open(t, copyOf(t, d), gens...), want)
}

// untouched tells a fault, if a call did something to the device since it had that image and that register.
func untouched(t *testing.T, what any, d *device.Device, image []string, r api.Register) {
	t.Helper()
	if d.Register() != r || !slices.Equal(d.Image(), image) {
		t.Errorf("%v: the device has changed", what)
	}
}

// blocksOf is how many blocks of a device have a head of generation gen.
func blocksOf(d *device.Device, gen uint32) int {
	n := 0
	for _, b := range d.Image() {
		if h, ok := seal.Get(b[:api.HeadSize]); ok && h.Gen == gen {
			n++
		}
	}
	return n
}

// rounds is how many steps a turn of so many pages has at most.
func rounds(pages, pace int) int {
	n := 1
	for n*pace < pages {
		n++
	}
	return n
}

// fates are what may become of pending blocks.
func fates(r *rand.Rand, n int) []int {
	out := make([]int, n)
	for i := range out {
		out[i] = r.Intn(6)
	}
	return out
}
