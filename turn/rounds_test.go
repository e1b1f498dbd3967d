package turn

import (
	"fmt"
	"math/rand"
	"slices"
	"testing"

	"sphragis/api"
	"sphragis/device"
	"sphragis/store"
)

// shapes are rows whose trees are of one page and of many, wide and deep.
func shapes() map[string][]api.Row {
	mixed := scattered(60)
	for i := range 20 {
		mixed = append(mixed, row(uint64(500+i), 7, 7, fmt.Sprint(i)))
	}
	return map[string][]api.Row{
		"none":      nil,
		"one page":  corners("v")[:3],
		"pile":      pile(12),
		"long pile": pile(150),
		"corners":   corners("v"),
		"scattered": scattered(120),
		"mixed":     mixed,
	}
}

// TestRounds (P17.3, T4): turns to their end, step by step: at most as many as there are pages, divided by the pace,
// rounded up; behind each of them rows are as they were, with the store and for whoever opens it; then the old key is
// not needed.
func TestRounds(t *testing.T) {
	for name, l := range shapes() {
		from := filled(t, 500, 1, l)
		for _, pace := range []int{1, 2, 3, 7, 30, 64, 999, 1000} {
			what := fmt.Sprint(name, " pace ", pace)
			d := copyOf(t, from)
			s := open(t, d, 1)
			u := turner(t, s, pace)
			begin(t, u, 2)
			pages, steps := s.Stats().Pages, 0
			for on, e := true, api.OK; on; steps++ {
				old := s.Stats().Old
				if on, e = u.Step(); e != api.OK || on != (s.Stats().Old > 0) {
					t.Fatal(what, on, e)
				}
				if got := s.Stats(); got.Old > max(old-pace, 0) || got.Gen != 2 || got.Pages != pages {
					t.Fatal(what, old, got)
				}
				whole(t, what, s, l)
				if steps%8 == 0 {
					opens(t, what, d, l, 1, 2)
				}
			}
			if steps > rounds(pages, pace) {
				t.Error(what, steps, "steps for", pages, "pages")
			}
			is(t, what, u.End(1), api.OK)
			whole(t, what, s, l)
			opens(t, what, d, l, 2)
			if _, e := store.Open(d, ringOf(1)); e != api.ErrKey {
				t.Error(what, "the old key", e)
			}
		}
	}
}

// TestRoundsAll (P17.3): as many steps at most are enough for All.
func TestRoundsAll(t *testing.T) {
	for name, l := range shapes() {
		d := filled(t, 500, 1, l)
		u := turner(t, open(t, d, 1), 1)
		for gen := uint32(2); gen < 20; gen++ {
			what := fmt.Sprint(name, " generation ", gen)
			u := turner(t, u.Store, int(gen-1)*3)
			begin(t, u, gen)
			enough := rounds(u.Stats().Pages, int(gen-1)*3)
			if n, e := u.All(enough); n < 1 || n > enough || e != api.OK || u.On() {
				t.Error(what, n, e, u.Stats())
			}
			is(t, what, u.End(gen-1), api.OK)
			whole(t, what, u.Store, l)
		}
		opens(t, name, d, l, 19)
	}
}

// TestMany (P17.3): of as many rows as there may be, at the least and the greatest pace.
func TestMany(t *testing.T) {
	l := scattered(api.MaxRows)
	from := filled(t, api.MaxBlocks, 1, l)
	for _, pace := range []int{1, 1000} {
		d := copyOf(t, from)
		u := turner(t, open(t, d, 1), pace)
		begin(t, u, 2)
		enough := rounds(u.Stats().Pages, pace)
		if n, e := u.All(enough); n < 1 || n > enough || e != api.OK || u.On() {
			t.Error(pace, n, e, u.Stats())
		}
		is(t, "end", u.End(1), api.OK)
		opens(t, pace, d, l, 2)
	}
}

// TestCommitsBetween (P17.1, P17.3): changes between the steps are there, and add none: what they write is of the
// newest generation.
func TestCommitsBetween(t *testing.T) {
	for name, l := range shapes() {
		for _, pace := range []int{1, 4, 1000} {
			what := fmt.Sprint(name, " pace ", pace)
			d := filled(t, 500, 1, l)
			u := turner(t, open(t, d, 1), pace)
			r := rand.New(rand.NewSource(int64(pace)))
			begin(t, u, 2)
			commit(t, u.Store, put(row(2000, 1, 1, "ahead")))
			want := append(slices.Clone(l), row(2000, 1, 1, "ahead"))
			stats(t, what, u.Store, 1, u.Stats().Pages)
			pages, steps := u.Stats().Pages, 0
			for on, e := true, api.OK; on; steps++ {
				if on, e = u.Step(); e != api.OK {
					t.Fatal(what, e)
				}
				old := u.Stats().Old
				more := row(uint64(3000+steps), r.Uint32()>>1, r.Uint32()>>1, "between")
				commit(t, u.Store, put(more))
				if want = append(want, more); u.Stats().Old > old {
					t.Error(what, old, u.Stats())
				}
				on = u.On()
				whole(t, what, u.Store, want)
			}
			if steps > rounds(pages, pace) {
				t.Error(what, steps, "steps for", pages, "pages")
			}
			is(t, what, u.End(1), api.OK)
			opens(t, what, d, want, 2)
		}
	}
}

// TestDeletesBetween (P17.1): a commit that leaves no older page ends a turn.
func TestDeletesBetween(t *testing.T) {
	d, s := tree(t, 30)
	u := turner(t, s, 1)
	begin(t, u, 2)
	step(t, "step", u, true, api.OK)
	var ops []api.Op
	for id := uint64(1); id <= 16; id++ {
		ops = append(ops, drop(id))
	}
	commit(t, s, ops...)
	isOn(t, "no rows", u, false)
	all(t, "no rows", u, 9, 0, api.OK)
	is(t, "no rows", u.End(1), api.OK)
	opens(t, "no rows", d, nil, 2)
}

// TestTwoTurners (P17.1, R4): of one store each has its own pace and its own Begin; of two stores none has to do with
// the other.
func TestTwoTurners(t *testing.T) {
	d, s := tree(t, 30)
	slow, fast := turner(t, s, 1), turner(t, s, 4)
	_, far := tree(t, 30)
	apart := turner(t, far, 2)
	begin(t, slow, 4)
	isOn(t, "slow", slow, true)
	isOn(t, "fast", fast, true)
	isOn(t, "apart", apart, false)
	step(t, "slow", slow, true, api.OK)
	is(t, "fast", fast.End(1), api.ErrArg)
	step(t, "fast", fast, false, api.OK)
	isOn(t, "slow", slow, false)
	begin(t, fast, 7)
	is(t, "drop", s.DropKey(7), api.OK)
	isOn(t, "slow", slow, false)
	isOn(t, "fast", fast, true)
	is(t, "fast", fast.End(1), api.ErrArg)
	is(t, "slow", slow.End(1), api.OK)
	opens(t, "behind", d, corners("v"), 4)
	stats(t, "apart", far, 1, 0)
}

// TestAnswers (R3): what was handed in is not kept.
func TestAnswers(t *testing.T) {
	d, s := tree(t, 30)
	u := turner(t, s, 2)
	k := key(2)
	is(t, "begin", u.Begin(k), api.OK)
	k.Gen, k.Secret = 9, "meddled"
	all(t, "all", u, 9, 2, api.OK)
	stats(t, "all", s, 2, 0)
	l := u.Rows()
	l[0] = row(77, 7, 7, "meddled")
	_ = append(l[:1], l[0], l[0])
	whole(t, "behind", s, corners("v"))
	opens(t, "behind", d, corners("v"), 2)
}

// byWords is another turner, made from the words of the document alone.
type byWords struct {
	s     *store.Store
	pace  int
	begun uint32
}

func (w *byWords) on() bool {
	return w.s.Stats().Old > 0 || w.begun > w.s.Stats().Gen
}

func (w *byWords) begin(k api.Key) api.Errno {
	if !(k.Gen > w.s.Stats().Gen) {
		return api.ErrArg
	}
	e := w.s.AddKey(k)
	if e == api.OK {
		w.begun = k.Gen
	}
	return e
}

func (w *byWords) step() (bool, api.Errno) {
	if _, e := w.s.Rekey(w.pace); e != api.OK {
		return true, e
	}
	return w.on(), api.OK
}

func (w *byWords) all(most int) (int, api.Errno) {
	if most < 0 {
		return 0, api.ErrArg
	}
	n := 0
	for w.on() && n < most {
		n++
		if _, e := w.step(); e != api.OK {
			return n, e
		}
	}
	return n, api.OK
}

func (w *byWords) end(gen uint32) api.Errno {
	if w.on() {
		return api.ErrArg
	}
	return w.s.DropKey(gen)
}

// twins are a turner and one by words, each on a device of its own, which are the same.
type twins struct {
	r    *rand.Rand
	d, c *device.Device
	ring []uint32 // all that there ever were: so many that either opens
	u    *Turner
	w    *byWords
}

// reopen lets both be opened anew, with a pace of their own.
func (p *twins) reopen(t *testing.T) {
	t.Helper()
	pace := 1 + p.r.Intn(6)
	p.u = turner(t, open(t, p.d, p.ring...), pace)
	p.w = &byWords{s: open(t, p.c, p.ring...), pace: pace}
}

// same tells a fault, unless both tell the same and are the same.
func (p *twins) same(t *testing.T, what any, got, want any, f, e api.Errno) {
	t.Helper()
	if got != want || f != e {
		t.Fatalf("%v: %v, %d instead of %v, %d", what, got, f, want, e)
	}
	if p.u.On() != p.w.on() || p.u.Stats() != p.w.s.Stats() || !slices.Equal(p.u.Rows(), p.w.s.Rows()) {
		t.Fatalf("%v: %v, %v instead of %v, %v", what, p.u.On(), p.u.Stats(), p.w.on(), p.w.s.Stats())
	}
	untouched(t, what, p.d, p.c.Image(), p.c.Register())
}

// play does one call to both.
func (p *twins) play(t *testing.T, what any) {
	t.Helper()
	gen := uint32(p.r.Intn(10))
	switch p.r.Intn(9) {
	case 0, 1:
		k := key(gen)
		if p.r.Intn(9) == 0 {
			k.Secret = "short"
		}
		p.same(t, what, 0, 0, p.u.Begin(k), p.w.begin(k))
	case 2, 3:
		got, f := p.u.Step()
		want, e := p.w.step()
		p.same(t, what, got, want, f, e)
	case 4:
		most := p.r.Intn(20) - 1
		got, f := p.u.All(most)
		want, e := p.w.all(most)
		p.same(t, what, got, want, f, e)
	case 5:
		p.same(t, what, 0, 0, p.u.End(gen), p.w.end(gen))
	case 6:
		k := key(gen)
		p.same(t, what, 0, 0, p.u.AddKey(k), p.w.s.AddKey(k))
	case 7:
		p.same(t, what, 0, 0, p.u.DropKey(gen), p.w.s.DropKey(gen))
	default:
		ops := puts(scattered(p.r.Intn(12)))
		if p.r.Intn(2) == 0 {
			ops = append(ops, drop(uint64(1+p.r.Intn(20))))
		}
		got, f := p.u.Commit(ops)
		want, e := p.w.s.Commit(ops)
		p.same(t, what, got, want, f, e)
	}
}

// TestByWords (P17.1, P17.2): whatever is done, and whenever the power ends, a turner is as one by words.
func TestByWords(t *testing.T) {
	for seed := range int64(250) {
		r := rand.New(rand.NewSource(seed))
		d := filled(t, 12+r.Intn(40), 3, corners("v")[:r.Intn(12)])
		p := &twins{r: r, d: d, c: copyOf(t, d), ring: []uint32{1, 2, 3, 4, 5, 6, 7, 8, 9}}
		p.u = turner(t, open(t, p.d, 3), 2)
		p.w = &byWords{s: open(t, p.c, 3), pace: 2}
		for i := range 60 {
			what := fmt.Sprint("seed ", seed, ", call ", i)
			cut := -1
			if r.Intn(8) == 0 {
				cut = r.Intn(20)
			}
			p.d.Cut(cut)
			p.c.Cut(cut)
			p.play(t, what)
			if cut < 0 || r.Intn(3) > 0 {
				continue
			}
			l := fates(r, 9)
			is(t, what, p.d.Wake(l), api.OK)
			is(t, what, p.c.Wake(l), api.OK)
			p.same(t, what, 0, 0, api.OK, api.OK)
			p.reopen(t)
			p.same(t, what, 0, 0, api.OK, api.OK)
		}
	}
}
