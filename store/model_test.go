package store

import (
	"fmt"
	"maps"
	"math/rand"
	"slices"
	"strings"
	"testing"

	"sphragis/api"
	"sphragis/device"
)

// plainPage is a page of a plain store: what stands in it, the pages that it refers to by their numbers; which writing
// it was, where it is, of which generation.
type plainPage struct {
	key    string
	number int
	place  uint32
	gen    uint32
}

// plainStore is another store, made from the words of the document alone: it has no blocks, but knows what is where.
type plainStore struct {
	blocks  int
	ring    []uint32
	gen     uint32
	rows    map[uint64]api.Row
	pages   []plainPage
	taken   map[uint32]bool
	counter uint64
	number  int
	// what the register vouches for
	wasGen uint32
}

// sorted are rows by rising Ids.
func sorted(m map[uint64]api.Row) []api.Row {
	var out []api.Row
	for _, id := range slices.Sorted(maps.Keys(m)) {
		out = append(out, m[id])
	}
	return out
}

// plainChange does changes to rows: those behind, or the place and the error of the first one that can't be done.
func plainChange(m map[uint64]api.Row, ops []api.Op) (map[uint64]api.Row, int, api.Errno) {
	if len(ops) < 1 || len(ops) > 64 {
		return nil, 0, api.ErrBatch
	}
	m = maps.Clone(m)
	for i, o := range ops {
		was, there := m[o.Row.Id]
		off := o.Row.X >= 1<<31 || o.Row.Y >= 1<<31
		switch {
		case o.Kind < 1 || o.Kind > 3:
			return nil, i, api.ErrArg
		case o.Kind == api.OPut && (off || len(o.Row.Val) > 16), o.Kind == api.OMove && off:
			return nil, i, api.ErrRow
		case o.Kind != api.OPut && !there:
			return nil, i, api.ErrNone
		case o.Kind == api.OPut:
			m[o.Row.Id] = o.Row
		case o.Kind == api.OMove:
			was.X, was.Y = o.Row.X, o.Row.Y
			m[o.Row.Id] = was
		default:
			delete(m, o.Row.Id)
		}
	}
	return m, 0, api.OK
}

// saving is one of a plain store: what was had, which pages there are, how many were written, and how many can be.
type saving struct {
	m       *plainStore
	had     map[string]plainPage
	pages   []plainPage
	places  []uint32 // free ones, the least first
	written int
	full    bool
}

// page is the number of a page with that in it.
func (v *saving) page(key string) int {
	p, ok := v.had[key]
	if !ok {
		if v.written == len(v.places) {
			v.full = true
			return 0
		}
		v.m.number++
		p = plainPage{key: key, number: v.m.number, place: v.places[v.written], gen: v.m.gen}
		v.written++
	}
	v.pages = append(v.pages, p)
	return p.number
}

// tree is the number of the last page of rows.
func (v *saving) tree(l []api.Row) int {
	level, x, y := 0, uint32(0), uint32(0)
	for ; len(l) > 0; level++ {
		x, y = l[0].X>>level<<level, l[0].Y>>level<<level
		if !slices.ContainsFunc(l, func(r api.Row) bool { return r.X>>level<<level != x || r.Y>>level<<level != y }) {
			break
		}
	}
	if len(l) <= 4 || level == 0 {
		next := 0
		for at := max(len(l)-1, 0) / 4 * 4; at >= 0 && !v.full; at -= 4 {
			next = v.page(fmt.Sprintf("leaf %q %d", fmt.Sprint(l[at:min(at+4, len(l))]), next))
		}
		return next
	}
	var quarters [4][]api.Row
	for _, r := range l {
		n := r.X>>(level-1)&1 + r.Y>>(level-1)&1*2
		quarters[n] = append(quarters[n], r)
	}
	var kids []int
	for _, q := range quarters {
		if len(q) > 0 && !v.full {
			kids = append(kids, v.tree(q))
		}
	}
	if v.full {
		return 0
	}
	return v.page(fmt.Sprint("inner ", x, y, level, kids))
}

// save saves and publishes rows, if cut is no less than how many operations that takes (below 0: it does).
func (m *plainStore) save(rows map[uint64]api.Row, had []plainPage, cut int) api.Errno {
	v := &saving{m: m, had: map[string]plainPage{}}
	for _, p := range had {
		v.had[p.key] = p
	}
	for p := range uint32(m.blocks) {
		if p >= 2 && !m.taken[p] {
			v.places = append(v.places, p)
		}
	}
	v.tree(sorted(rows))
	if cut >= 0 && cut < v.written {
		return api.ErrPower
	}
	if v.full {
		return api.ErrFull
	}
	for _, p := range v.pages {
		m.taken[p.place] = true
	}
	if cut >= 0 && cut < v.written+4 {
		return api.ErrPower
	}
	m.rows, m.pages = rows, v.pages
	m.counter++
	m.wasGen = m.gen
	m.take()
	return api.OK
}

// take lets just the pages' blocks be taken.
func (m *plainStore) take() {
	m.taken = map[uint32]bool{}
	for _, p := range m.pages {
		m.taken[p.place] = true
	}
}

func (m *plainStore) old() []plainPage {
	var out []plainPage
	for _, p := range m.pages {
		if p.gen < slices.Max(m.ring) {
			out = append(out, p)
		}
	}
	return out
}

func (m *plainStore) stats() api.Stats {
	return api.Stats{Rows: len(m.rows), Pages: len(m.pages), Free: m.blocks - 2 - len(m.taken), Counter: m.counter, Gen: m.gen, Old: len(m.old())}
}

func (m *plainStore) rekey(n int, cut int) (int, api.Errno) {
	if n <= 0 {
		return 0, api.ErrArg
	}
	newest := slices.Max(m.ring)
	if len(m.old()) == 0 && m.gen == newest {
		return 0, api.OK
	}
	left := m.old()[:min(n, len(m.old()))]
	m.gen = newest
	had := slices.DeleteFunc(slices.Clone(m.pages), func(p plainPage) bool { return slices.Contains(left, p) })
	if e := m.save(m.rows, had, cut); e != api.OK {
		return 0, e
	}
	return len(m.old()), api.OK
}

func (m *plainStore) addKey(k api.Key) api.Errno {
	if k.Gen == 0 || len(k.Secret) != 32 || slices.Contains(m.ring, k.Gen) || len(m.ring) == 16 {
		return api.ErrRing
	}
	m.ring = append(slices.Clone(m.ring), k.Gen)
	slices.Sort(m.ring)
	return api.OK
}

func (m *plainStore) dropKey(gen uint32) api.Errno {
	if !slices.Contains(m.ring, gen) {
		return api.ErrKey
	}
	if gen == m.gen || slices.ContainsFunc(m.pages, func(p plainPage) bool { return p.gen == gen }) {
		return api.ErrArg
	}
	m.ring = slices.DeleteFunc(slices.Clone(m.ring), func(g uint32) bool { return g == gen })
	return api.OK
}

// asPlain tells a fault, unless the store is as the plain one: rows, stats, each page's place and generation.
func asPlain(t *testing.T, what any, s *Store, m *plainStore) {
	t.Helper()
	if got := s.Stats(); got != m.stats() {
		t.Fatalf("%v: %v, not %v", what, got, m.stats())
	}
	if !slices.Equal(s.Rows(), sorted(m.rows)) {
		t.Fatalf("%v: %v, not %v", what, s.Rows(), sorted(m.rows))
	}
	var want []api.Head
	var places []uint32
	for _, p := range m.pages {
		places = append(places, p.place)
		want = append(want, api.Head{Page: p.place, Gen: p.gen})
	}
	for i, h := range heads(t, s.device, places...) {
		if h.Page != want[i].Page || h.Gen != want[i].Gen {
			t.Fatalf("%v: page %d: %v, not %v", what, i, h, want[i])
		}
	}
}

// someOps are changes by chance, few of them wrong.
func someOps(r *rand.Rand, span int) []api.Op {
	var out []api.Op
	for range 1 + r.Intn(8) {
		o := api.Op{Kind: 1 + r.Intn(2), Row: row(uint64(r.Intn(span)), uint32(r.Intn(3))<<r.Intn(20), uint32(r.Intn(4)), strings.Repeat("v", r.Intn(17)))}
		switch r.Intn(40) {
		case 0:
			o.Kind = r.Intn(6) - 1
		case 1:
			o.Row.Y = api.MaxPlace
		case 2:
			o.Row.Val = strings.Repeat("v", 17)
		case 3, 4, 5, 6, 7, 8:
			o.Kind = api.ODelete
		default:
			if o.Kind == api.OMove && r.Intn(4) > 0 {
				o.Kind = api.OPut
			}
		}
		out = append(out, o)
	}
	if r.Intn(30) == 0 {
		return nil
	}
	return out
}

// played is a store and a plain one, of one device; had ends with the power of the last change.
type played struct {
	r *rand.Rand
	d *device.Device
	s *Store
	m *plainStore
}

// step does one call to both; whether the power ended in it.
func (p *played) step(t *testing.T, what any) bool {
	t.Helper()
	r, cut := p.r, -1
	if r.Intn(4) == 0 {
		cut = r.Intn(14)
	}
	p.d.Cut(cut)
	e := api.OK
	same := func(got, want int, f, w api.Errno) {
		t.Helper()
		if got != want || f != w {
			t.Fatalf("%v: %d, %d, not %d, %d", what, got, f, want, w)
		}
		e = f
	}
	switch r.Intn(10) {
	default:
		ops := someOps(r, 30)
		rows, at, w := plainChange(p.m.rows, ops)
		if w == api.OK {
			w = p.m.save(rows, p.m.pages, cut)
		}
		got, f := p.s.Commit(ops)
		same(got, at, f, w)
	case 0:
		k := key(uint32(r.Intn(12)))
		if r.Intn(8) == 0 {
			k.Secret = "short"
		}
		same(0, 0, p.s.AddKey(k), p.m.addKey(k))
	case 1:
		gen := uint32(r.Intn(12))
		same(0, 0, p.s.DropKey(gen), p.m.dropKey(gen))
	case 2, 3:
		n := r.Intn(6) - 1
		want, w := p.m.rekey(n, cut)
		got, f := p.s.Rekey(n)
		same(got, want, f, w)
	case 4:
		got, f := p.s.Scrub()
		same(got, len(p.m.pages), f, api.OK)
	}
	return e == api.ErrPower
}

// reopen is what Open finds behind the power's end, and what a plain store is then.
func (p *played) reopen(t *testing.T) {
	t.Helper()
	p.m.gen = p.m.wasGen
	p.m.take()
	p.s = open(t, p.d, p.m.ring...)
}

// TestByChance (P16.1 to P16.5, T1, T2, T4, T5): a store is as a plain one, whatever is done to both, and whenever the
// power ends.
func TestByChance(t *testing.T) {
	for seed := range int64(150) {
		r := rand.New(rand.NewSource(seed))
		p := &played{r: r, d: disk(t, 8+r.Intn(40))}
		p.m = &plainStore{blocks: p.d.Blocks(), ring: []uint32{3}, gen: 3, rows: map[uint64]api.Row{}, taken: map[uint32]bool{}}
		p.m.save(map[uint64]api.Row{}, nil, -1)
		p.s = format(t, p.d, 3)
		for i := range 60 {
			what := fmt.Sprint("seed ", seed, ", step ", i)
			ended := p.step(t, what)
			asPlain(t, what, p.s, p.m)
			p.d.Cut(-1)
			if ended {
				is(t, what, p.s.AddKey(key(1)), api.ErrPoison)
				is(t, what, p.d.Wake(fates(r, r.Intn(12))), api.OK)
			}
			if ended || r.Intn(12) == 0 {
				p.reopen(t)
				asPlain(t, what, p.s, p.m)
			}
		}
		whole(t, seed, p.s)
	}
}
