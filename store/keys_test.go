package store

import (
	"math"
	"slices"
	"strings"
	"testing"

	"sphragis/api"
	"sphragis/grove"
)

// tree is a store of 16 rows on a device, with keys of generations: leafs at 3, 4, 5, 6, an Inner page at 7.
func tree(t *testing.T, blocks int, gens ...uint32) *Store {
	t.Helper()
	s := format(t, disk(t, blocks), gens...)
	commit(t, s, puts(corners("v")...)...)
	return s
}

// TestAddKey (P16.4): the errors of keys.Add; a key that was added is not sealed with, but all pages are older.
func TestAddKey(t *testing.T) {
	s := tree(t, 20, 2, 5)
	if got := s.Stats(); got.Gen != 5 || got.Old != 0 {
		t.Error(got)
	}
	want, before, reg := s.Stats(), s.device.Image(), s.device.Register()
	for name, k := range map[string]api.Key{
		"empty":            {},
		"generation 0":     {Secret: key(1).Secret},
		"a short secret":   {Gen: 7, Secret: "a"},
		"a long secret":    {Gen: 7, Secret: strings.Repeat("a", 33)},
		"twice":            key(5),
		"another of twice": {Gen: 2, Secret: key(3).Secret},
	} {
		is(t, name, s.AddKey(k), api.ErrRing)
	}
	is(t, "an older one", s.AddKey(key(3)), api.OK)
	if s.Stats() != want {
		t.Error(s.Stats())
	}
	is(t, "a newer one", s.AddKey(key(9)), api.OK)
	want.Old = 5
	if s.Stats() != want {
		t.Error(s.Stats())
	}
	is(t, "between", s.AddKey(key(7)), api.OK)
	if s.Stats() != want {
		t.Error(s.Stats())
	}
	if s.device.Register() != reg || len(written(before, s.device.Image())) > 0 {
		t.Error("the device has changed")
	}
	commit(t, s, put(row(1, 0, 0, "w")))
	if got := s.Stats(); got.Gen != 5 || got.Old != 5 {
		t.Error(got)
	}
	for gen := uint32(10); gen < 21; gen++ {
		is(t, gen, s.AddKey(key(gen)), api.OK)
	}
	is(t, "too many", s.AddKey(key(21)), api.ErrRing)
	whole(t, "behind", s)
}

// TestDropKey (P16.4): the errors of keys.Drop, then of a key that is needed; what was dropped can be added again.
func TestDropKey(t *testing.T) {
	s := tree(t, 20, 2, 5)
	is(t, "key", s.AddKey(key(9)), api.OK)
	want, before, reg := s.Stats(), s.device.Image(), s.device.Register()
	for _, gen := range []uint32{0, 1, 3, 8, 10, ends} {
		is(t, gen, s.DropKey(gen), api.ErrKey)
	}
	is(t, "sealed with", s.DropKey(5), api.ErrArg)
	if s.Stats() != want {
		t.Error(s.Stats())
	}
	for range 2 {
		is(t, "not needed", s.DropKey(2), api.OK)
		is(t, "not there", s.DropKey(2), api.ErrKey)
		if s.Stats() != want {
			t.Error(s.Stats())
		}
		is(t, "again", s.AddKey(key(2)), api.OK)
	}
	is(t, "the newest", s.DropKey(9), api.OK)
	want.Old = 0
	if s.Stats() != want {
		t.Error(s.Stats())
	}
	rekey(t, s, 1, 0)
	if s.device.Register() != reg || len(written(before, s.device.Image())) > 0 {
		t.Error("the device has changed")
	}
	is(t, "key", s.AddKey(key(9)), api.OK)
	for _, left := range []int{2, 0} {
		is(t, "a page's", s.DropKey(5), api.ErrArg)
		rekey(t, s, 2, left)
		is(t, "sealed with", s.DropKey(9), api.ErrArg)
	}
	is(t, "no page's", s.DropKey(5), api.OK)
	is(t, "not needed", s.DropKey(2), api.OK)
	is(t, "the last one", s.DropKey(9), api.ErrArg)
	whole(t, "behind", s)
	opens(t, "behind", s.device, ringOf(9), s.Rows())
}

// TestDropped (P16.4): a key that was dropped is not there any more for what is read.
func TestDropped(t *testing.T) {
	s := tree(t, 20, 1)
	is(t, "key", s.AddKey(key(2)), api.OK)
	image, reg := s.device.Image(), s.device.Register()
	rekey(t, s, 5, 0)
	is(t, "drop", s.DropKey(1), api.OK)
	restore(s.device, image)
	setRegister(s.device, reg)
	if n, e := s.Scrub(); n != 0 || e != api.ErrKey {
		t.Error(n, e)
	}
	is(t, "key", s.AddKey(key(1)), api.OK)
	if n, e := s.Scrub(); n != 0 || e != api.ErrIntegrity {
		t.Error(n, e)
	}
}

// TestRekey (P16.4): the first older pages, and those that refer to them, are sealed anew, at free blocks, the others
// stay; rows are as they were.
func TestRekey(t *testing.T) {
	s := tree(t, 20, 1)
	d := s.device
	is(t, "key", s.AddKey(key(3)), api.OK)
	for i, step := range []struct {
		n, left int
		slot    uint32
		written []uint32
		gens    []uint32 // of the pages, in order
	}{
		{1, 3, 1, []uint32{2, 8}, []uint32{3, 1, 1, 1, 3}},
		{2, 1, 0, []uint32{3, 7, 9}, []uint32{3, 3, 3, 1, 3}},
		{5, 0, 1, []uint32{4, 5}, []uint32{3, 3, 3, 3, 3}},
	} {
		before, count := d.Image(), d.Register().Counter
		rekey(t, s, step.n, step.left)
		if got, want := written(before, d.Image()), append([]uint32{step.slot}, step.written...); !slices.Equal(got, want) {
			t.Error(i, got, want)
		}
		want := api.Stats{Rows: 16, Pages: 5, Free: 13, Counter: count + 1, Gen: 3, Old: step.left}
		if got := s.Stats(); got != want {
			t.Error(i, got, want)
		}
		var gens []uint32
		for _, p := range s.pages {
			gens = append(gens, heads(t, d, p.Ref.Page)[0].Gen)
		}
		if !slices.Equal(gens, step.gens) {
			t.Error(i, gens)
		}
		if r := said(t, d, 3); r.Gen != 3 || r.Counter != count+1 {
			t.Error(i, r)
		}
		has(t, i, s, corners("v"))
		whole(t, i, s)
		if o := opens(t, i, d, ringOf(1, 3), s.Rows()); o.Stats() != want {
			t.Error(i, o.Stats())
		}
	}
	before, reg := d.Image(), d.Register()
	for _, n := range []int{1, 5, math.MaxInt} {
		rekey(t, s, n, 0)
	}
	if d.Register() != reg || len(written(before, d.Image())) > 0 {
		t.Error("nothing was to do, but something was done")
	}
	opens(t, "without the old key", d, ringOf(3), s.Rows())
}

// TestRekeyAll (P16.4): any greater number is all; one page may draw all others with it; one that is alone is just one.
func TestRekeyAll(t *testing.T) {
	for _, n := range []int{5, 6, 1 << 40, math.MaxInt} {
		s := tree(t, 20, 1, 2)
		is(t, "key", s.AddKey(key(3)), api.OK)
		rekey(t, s, n, 0)
		is(t, "drop", s.DropKey(2), api.OK)
		opens(t, n, s.device, ringOf(3), s.Rows())
	}
	s := format(t, disk(t, 20), 1)
	commit(t, s, puts(pile(1, 12, 5, 5)...)...)
	is(t, "key", s.AddKey(key(3)), api.OK)
	rekey(t, s, 1, 0) // the piece that all others refer to, one behind the other
	whole(t, "chain", s)
	s = format(t, disk(t, 4), 1)
	is(t, "key", s.AddKey(key(2)), api.OK)
	if got := s.Stats(); got.Old != 1 {
		t.Error(got)
	}
	rekey(t, s, 1, 0)
	opens(t, "one page", s.device, ringOf(2), nil)
}

// TestRekeySteps (P16.4): a step at a time, as many pages as at least are asked for, between other changes.
func TestRekeySteps(t *testing.T) {
	for n := 1; n <= 6; n++ {
		s := tree(t, 30, 1)
		is(t, "key", s.AddKey(key(2)), api.OK)
		steps := 0
		for old := s.Stats().Old; old > 0; steps++ {
			left, e := s.Rekey(n)
			if e != api.OK || left > max(old-n, 0) || left != s.Stats().Old {
				t.Fatal(n, old, left, e)
			}
			old = left
			commit(t, s, put(row(16, 1003, 1000, strings.Repeat("s", steps+1))))
			if got := s.Stats(); got.Old > old || got.Gen != 2 {
				t.Error(n, got)
			}
			old = s.Stats().Old
		}
		if steps > (5+n-1)/n {
			t.Error(n, "steps", steps)
		}
		is(t, "drop", s.DropKey(1), api.OK)
		opens(t, n, s.device, ringOf(2), s.Rows())
	}
}

// TestRekeyWrong (P16.4, R1): a number that is none comes ahead of there being nothing to do, and turns nothing.
func TestRekeyWrong(t *testing.T) {
	s := tree(t, 20, 1)
	wrong := func(old int) {
		t.Helper()
		for _, n := range []int{0, -1, math.MinInt} {
			noRekey(t, "wrong", s, n, api.ErrArg)
		}
		if got := s.Stats(); got != (api.Stats{Rows: 16, Pages: 5, Free: 13, Counter: 2, Gen: 1, Old: old}) {
			t.Error(got)
		}
	}
	wrong(0)
	is(t, "key", s.AddKey(key(2)), api.OK)
	wrong(5)
	is(t, "not sealed with", s.DropKey(2), api.OK)
}

// TestRekeyFull (P16.2, P16.4): without room it stays sealed with the newest generation, and all else is as it was.
func TestRekeyFull(t *testing.T) {
	s := tree(t, 8, 1) // one block is free: a leaf fits, but not its Inner page
	is(t, "key", s.AddKey(key(2)), api.OK)
	want := s.Stats()
	want.Gen = 2
	for _, n := range []int{1, 2, 9} {
		noRekey(t, "full", s, n, api.ErrFull)
		if s.Stats() != want {
			t.Error(s.Stats())
		}
		has(t, "full", s, corners("v"))
		whole(t, "full", s)
		opens(t, "full", s.device, ringOf(1), s.Rows())
	}
	is(t, "sealed with", s.DropKey(2), api.ErrArg)
	is(t, "a page's", s.DropKey(1), api.ErrArg)
	// all in one leaf fits, and has the newest generation
	var ops []api.Op
	for id := uint64(2); id <= 16; id++ {
		ops = append(ops, drop(id))
	}
	commit(t, s, ops...)
	if got := s.Stats(); got != (api.Stats{Rows: 1, Pages: 1, Free: 5, Counter: 3, Gen: 2}) {
		t.Error(got)
	}
	is(t, "no page's", s.DropKey(1), api.OK)
	opens(t, "behind", s.device, ringOf(2), corners("v")[:1])
}

// TestRekeyRoot (P16.4): where no page is older, but what it seals with is, a new root is all.
func TestRekeyRoot(t *testing.T) {
	d := disk(t, 20)
	format(t, d, 1, 2)
	pages, e := grove.Save(hand(t, d, 2, 1, 2), corners("v"), nil)
	is(t, "save", e, api.OK)
	r := api.Root{Counter: 2, Gen: 1, Rows: 16, Tree: pages[len(pages)-1].Ref}
	vouch(t, d, hand(t, d, 1, 1, 2), rootText(t, r))
	s := open(t, d, 1, 2)
	if got := s.Stats(); got.Gen != 1 || got.Old != 0 || got.Pages != 5 {
		t.Fatal(got)
	}
	is(t, "a page's", s.DropKey(2), api.ErrArg)
	before := d.Image()
	rekey(t, s, 1, 0)
	if got := written(before, d.Image()); !slices.Equal(got, []uint32{1}) || s.Stats().Gen != 2 {
		t.Error(got, s.Stats())
	}
	is(t, "drop", s.DropKey(1), api.OK)
	opens(t, "behind", d, ringOf(2), corners("v"))
}
