package store

import (
	"fmt"
	"math/rand"
	"slices"
	"strings"
	"testing"

	"sphragis/api"
	"sphragis/device"
)

// poisoned tells a fault, unless the store is, and tells rows and stats as ever.
func poisoned(t *testing.T, what any, s *Store, want []api.Row, stats api.Stats) {
	t.Helper()
	noCommit(t, what, s, nil, 0, api.ErrPoison)
	noCommit(t, what, s, puts(row(1, 2, 3, "")), 0, api.ErrPoison)
	noRekey(t, what, s, 0, api.ErrPoison)
	noRekey(t, what, s, 1, api.ErrPoison)
	is(t, what, s.AddKey(api.Key{}), api.ErrPoison)
	is(t, what, s.AddKey(key(20)), api.ErrPoison)
	is(t, what, s.DropKey(0), api.ErrPoison)
	is(t, what, s.DropKey(1), api.ErrPoison)
	if n, e := s.Scrub(); n != 0 || e != api.ErrPoison {
		t.Errorf("%v: Scrub: %d, %d", what, n, e)
	}
	has(t, what, s, want)
	if got := s.Stats(); got != stats {
		t.Errorf("%v: %v, not %v", what, got, stats)
	}
}

// change is one of a store whose power may end: how many pages it writes.
type change struct {
	gens  []uint32
	do    func(s *Store) api.Errno
	pages int
	rows  []api.Row
	gen   uint32 // that is sealed with, also if it fails
	old   int    // behind it, if it fails
}

// changes are a few: of the store that tree gives.
func changes() map[string]change {
	ops := func(ops ...api.Op) func(s *Store) api.Errno {
		return func(s *Store) api.Errno { _, e := s.Commit(ops); return e }
	}
	other := corners("v")
	other[0].Val = "w"
	return map[string]change{
		"one leaf":  {[]uint32{1}, ops(put(row(1, 0, 0, "w"))), 2, other, 1, 0},
		"all leafs": {[]uint32{1}, ops(puts(corners("w")...)...), 5, corners("w"), 1, 0},
		"no page":   {[]uint32{1}, ops(move(1, 0, 0)), 0, corners("v"), 1, 0},
		"one step":  {[]uint32{1, 2}, func(s *Store) api.Errno { _, e := s.Rekey(1); return e }, 2, corners("v"), 2, 5},
		"a turn":    {[]uint32{1, 2}, func(s *Store) api.Errno { _, e := s.Rekey(9); return e }, 5, corners("v"), 2, 5},
	}
}

// base is a device with the store that tree gives, of the generation 1.
func base(t *testing.T) *device.Device {
	t.Helper()
	return tree(t, 20, 1).device
}

// TestCuts (P16.2, P16.4, P16.5): the power ends with each operation of a change: the store is poisoned, its rows are
// those of the last commit, the blocks of pages stay taken if all of them were saved; Open finds the last commit's rows,
// whatever becomes of what was pending, and goes on.
func TestCuts(t *testing.T) {
	from := base(t)
	for name, c := range changes() {
		operations := c.pages + 4 // Flush, Super, Flush, Advance
		for n := range operations + 1 {
			for fate := range 8 {
				what := fmt.Sprint(name, n, " fate ", fate)
				d := copyOf(t, from)
				s := open(t, d, c.gens...)
				want := api.Stats{Rows: 16, Pages: 5, Free: 13, Counter: 2, Gen: c.gen, Old: c.old}
				d.Cut(n)
				e := c.do(s)
				if n == operations {
					is(t, what, e, api.OK)
					want.Counter, want.Old = 3, s.Stats().Old
					has(t, what, s, c.rows)
					is(t, what, d.Wake(nil), api.OK)
					whole(t, what, s)
					if o := opens(t, what, d, ringOf(1, 2), c.rows); o.Stats().Counter != 3 || o.Stats().Gen != c.gen {
						t.Error(what, o.Stats())
					}
					continue
				}
				is(t, what, e, api.ErrPower)
				if n >= c.pages {
					want.Free -= c.pages
				}
				poisoned(t, what, s, corners("v"), want)
				is(t, what, d.Wake(fates(rand.New(rand.NewSource(int64(fate))), 9)), api.OK)
				poisoned(t, what, s, corners("v"), want)
				o := opens(t, what, d, ringOf(c.gens...), corners("v"))
				if got := o.Stats(); got.Free != 13 || got.Counter != 2 || got.Gen != 1 {
					t.Error(what, got)
				}
				is(t, what, c.do(o), api.OK)
				opens(t, what, o.device, ringOf(c.gens...), c.rows)
			}
		}
	}
}

// TestCutsAllFates (P16.5): of one commit, with whatever becomes of each block that is pending.
func TestCutsAllFates(t *testing.T) {
	from := base(t)
	for n := range 6 {
		for fate := range 6 * 6 {
			d := copyOf(t, from)
			s := open(t, d, 1)
			d.Cut(n)
			noCommit(t, n, s, puts(row(1, 0, 0, "w")), 0, api.ErrPower)
			is(t, n, d.Wake([]int{fate / 6, fate % 6}), api.OK)
			opens(t, fmt.Sprint(n, fate), d, ringOf(1), corners("v"))
		}
	}
}

// TestPoisonedAlone (P16.2, T5): it is the store that is poisoned: not another one of the device, nor by what is read,
// or refused.
func TestPoisonedAlone(t *testing.T) {
	d := base(t)
	s, other := open(t, d, 1), open(t, d, 1)
	d.Cut(0)
	noCommit(t, "cut", s, puts(row(1, 0, 0, "w")), 0, api.ErrPower)
	if n, e := other.Scrub(); n != 0 || e != api.ErrPower {
		t.Error(n, e)
	}
	noCommit(t, "wrong", other, nil, 0, api.ErrBatch)
	is(t, "key", other.AddKey(key(2)), api.OK)
	is(t, "key", other.DropKey(2), api.OK)
	rekey(t, other, 1, 0)
	is(t, "wake", d.Wake(nil), api.OK)
	whole(t, "the other", other)
	commit(t, other, put(row(1, 0, 0, "x")))
	if e := s.AddKey(key(2)); e != api.ErrPoison {
		t.Error(e)
	}
	has(t, "poisoned", s, corners("v"))
}

// TestManyCuts (P16.5): over and over, on the same device: cuts, whatever becomes of blocks, opens that are cut too.
func TestManyCuts(t *testing.T) {
	for seed := range int64(60) {
		r := rand.New(rand.NewSource(seed))
		d := disk(t, 12+r.Intn(30))
		s := format(t, d, 1)
		for range 25 {
			count, l := d.Register().Counter, s.Rows()
			var ops []api.Op
			for range 1 + r.Intn(6) {
				ops = append(ops, put(row(uint64(r.Intn(12)), uint32(r.Intn(3))*5, uint32(r.Intn(40)), fmt.Sprint(r.Intn(9)))))
			}
			d.Cut(r.Intn(12))
			_, e := s.Commit(ops)
			if e == api.OK != (d.Register().Counter == count+1) {
				t.Fatal(seed, e, d.Register().Counter)
			}
			if e == api.OK {
				l = s.Rows()
			}
			is(t, "wake", d.Wake(fates(r, r.Intn(8))), api.OK)
			if r.Intn(4) == 0 {
				d.Cut(0)
				noOpen(t, seed, d, ringOf(1), api.ErrPower)
				is(t, "wake", d.Wake(fates(r, r.Intn(8))), api.OK)
			}
			s = open(t, d, 1)
			has(t, seed, s, l)
			whole(t, seed, s)
		}
	}
}

// history is a store's device behind some commits, with images of all blocks ahead of each.
func history(t *testing.T) (*device.Device, *Store, [][]string) {
	t.Helper()
	d := disk(t, 24)
	images := [][]string{d.Image()}
	s := format(t, d, 1)
	next := func() { images = append(images, d.Image()) }
	next()
	commit(t, s, puts(corners("v")...)...)
	next()
	commit(t, s, put(row(1, 0, 0, "w")), drop(9))
	next()
	is(t, "key", s.AddKey(key(2)), api.OK)
	rekey(t, s, 2, 2)
	next()
	commit(t, s, puts(pile(20, 9, 77, 77)...)...)
	next()
	commit(t, s, put(row(1, 0, 0, "v")))
	next()
	return d, s, images
}

// needed are the places of blocks that the last commit refers to.
func needed(s *Store) []uint32 {
	out := []uint32{uint32(s.device.Register().Counter % 2)}
	for _, p := range s.pages {
		out = append(out, p.Ref.Page)
	}
	return out
}

// rowsOrError tells a fault, unless the device opens as these rows, or not at all.
func rowsOrError(t *testing.T, what any, d *device.Device, want []api.Row) bool {
	t.Helper()
	s, e := Open(d, ringOf(1, 2))
	switch {
	case e == api.OK:
		has(t, what, s, want)
	case s != nil || e != api.ErrIntegrity && e != api.ErrKey && e != api.ErrIO:
		t.Errorf("%v: %v, %d", what, s != nil, e)
	}
	return e == api.OK
}

// TestTurnedBack (P16.6): a device that is turned back, whole or block by block, to whichever image, never opens as
// other rows; what the last commit refers to can't be missed.
func TestTurnedBack(t *testing.T) {
	d, s, images := history(t)
	last := len(images) - 1
	for i, image := range images {
		c := copyOf(t, d)
		restore(c, image)
		noted := api.ErrIntegrity
		if i == last {
			noted = api.OK
		}
		if _, e := Open(c, ringOf(1, 2)); e != noted {
			t.Error(i, e)
		}
		for p := range image {
			c := copyOf(t, d)
			is(t, "put", c.Put(uint32(p), image[p]), api.OK)
			same := image[p] == images[last][p]
			if got := rowsOrError(t, fmt.Sprint(i, p), c, s.Rows()); got != (same || !slices.Contains(needed(s), uint32(p))) {
				t.Error(i, p, got)
			}
		}
		if n, e := s.Scrub(); n != len(s.pages) || e != api.OK {
			t.Fatal("the history was changed", n, e)
		}
	}
}

// TestMoved (P16.6): a block that stands where another one stood is none; where none is needed it makes no difference.
func TestMoved(t *testing.T) {
	d, s, _ := history(t)
	image := d.Image()
	for from := range image {
		for to := range image {
			c := copyOf(t, d)
			is(t, "put", c.Put(uint32(to), image[from]), api.OK)
			makesNone := !slices.Contains(needed(s), uint32(to)) || image[from] == image[to]
			if got := rowsOrError(t, fmt.Sprint(from, to), c, s.Rows()); got != makesNone {
				t.Error(from, to, got)
			}
		}
	}
}

// TestRewritten (P16.6): whatever bytes are put into blocks.
func TestRewritten(t *testing.T) {
	d, s, images := history(t)
	for seed := range int64(600) {
		r := rand.New(rand.NewSource(seed))
		c := copyOf(t, d)
		for range 1 + r.Intn(4) {
			p := uint32(r.Intn(24))
			b := []byte(images[r.Intn(len(images))][r.Intn(24)])
			switch r.Intn(4) {
			case 0:
				b = []byte(c.Image()[p])
				b[r.Intn(len(b))] ^= 1 << r.Intn(8)
			case 1:
				r.Read(b)
			case 2: // the head of this place
				copy(b, c.Image()[p][:api.HeadSize])
			}
			is(t, "put", c.Put(p, string(b)), api.OK)
		}
		rowsOrError(t, seed, c, s.Rows())
	}
}

// TestOtherSecrets (P16.6): blocks that were sealed without the secrets are none, nor another store's.
func TestOtherSecrets(t *testing.T) {
	d, s, _ := history(t)
	forged := copyOf(t, d)
	reg := forged.Register()
	foreign := []api.Key{{Gen: 1, Secret: strings.Repeat("y", 32)}, {Gen: 2, Secret: strings.Repeat("z", 32)}}
	f, e := Format(forged, foreign)
	is(t, "format", e, api.OK)
	commit(t, f, puts(pile(1, 3, 1, 1)...)...)
	setRegister(forged, reg)
	noOpen(t, "forged", forged, ringOf(1, 2), api.ErrIntegrity)
	twin := copyOf(t, d)
	commit(t, open(t, twin, 1, 2), drop(1))
	setRegister(twin, reg)
	if rowsOrError(t, "twin", twin, s.Rows()) {
		t.Log("the twin's commit wrote over nothing that was needed")
	}
}

// TestWhileOpen (P16.2, P16.6): a store whose device is rewritten beneath it tells its rows, and finds it by Scrub;
// what it commits then opens as its rows, or not at all.
func TestWhileOpen(t *testing.T) {
	for p := range uint32(24) {
		d, s, images := history(t)
		is(t, "put", d.Put(p, images[2][p]), api.OK)
		l := s.Rows()
		fine := images[2][p] == images[len(images)-1][p] || !slices.Contains(needed(s), p)
		if n, e := s.Scrub(); fine != (e == api.OK) || fine != (n == len(s.pages)) {
			t.Error(p, n, e)
		}
		has(t, p, s, l)
		d, s, images = history(t)
		is(t, "put", d.Put(p, images[2][p]), api.OK)
		commit(t, s, put(row(2, 1, 0, "new")))
		rowsOrError(t, p, d, s.Rows())
	}
}
