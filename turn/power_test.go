package turn

import (
	"fmt"
	"math"
	"math/rand"
	"strings"
	"testing"

	"sphragis/api"
	"sphragis/store"
)

// poisoned tells a fault, unless the turner's store is, and a turn is on, or is not.
func poisoned(t *testing.T, what any, u *Turner, on bool) {
	t.Helper()
	isOn(t, what, u, on)
	gen := u.Stats().Gen
	is(t, what, u.Begin(key(gen)), api.ErrArg)
	is(t, what, u.Begin(key(0)), api.ErrArg)
	is(t, what, u.Begin(key(gen+7)), api.ErrPoison)
	is(t, what, u.Begin(api.Key{Gen: gen + 7}), api.ErrPoison)
	step(t, what, u, true, api.ErrPoison)
	all(t, what, u, -1, 0, api.ErrArg)
	all(t, what, u, 0, 0, api.OK)
	end, done, e := api.ErrPoison, 0, api.OK
	if on {
		end, done, e = api.ErrArg, 1, api.ErrPoison
	}
	all(t, what, u, 1, done, e)
	all(t, what, u, math.MaxInt, done, e)
	is(t, what, u.End(0), end)
	is(t, what, u.End(1), end)
	isOn(t, what, u, on)
}

// TestCuts (P17.2, P17.3, T1, T4): the power ends with each operation of a turn, whatever the pace: its step is told,
// and counts; the store is poisoned, with the turn on; opened anew the turn goes on where the last step that was there
// had left it, and all its steps that were there are no more than those of a turn in peace.
func TestCuts(t *testing.T) {
	from, _ := tree(t, 30)
	for _, pace := range []int{1, 2, 3, 1000} {
		for n, ended := 0, false; !ended; n++ {
			what := fmt.Sprint("pace ", pace, " cut ", n)
			d := copyOf(t, from)
			u := turner(t, open(t, d, 1), pace)
			begin(t, u, 2)
			count := d.Register().Counter
			d.Cut(n)
			done, e := u.All(99)
			there := int(d.Register().Counter - count)
			if ended = e == api.OK; !ended {
				is(t, what, e, api.ErrPower)
				if done != there+1 {
					t.Error(what, done, there)
				}
				stats(t, what, u.Store, 2, u.Stats().Old)
				poisoned(t, what, u, true)
				is(t, what, d.Wake(fates(rand.New(rand.NewSource(int64(n))), 9)), api.OK)
				poisoned(t, what, u, true)
				opens(t, what, d, corners("v"), 1, 2)
				u = turner(t, open(t, d, 1, 2), pace)
				isOn(t, what, u, true)
				more, e := u.All(99)
				is(t, what, e, api.OK)
				there += more
			}
			if there > rounds(5, pace) {
				t.Error(what, there, "steps")
			}
			d.Cut(-1)
			isOn(t, what, u, false)
			is(t, what, u.End(1), api.OK)
			opens(t, what, d, corners("v"), 2)
		}
	}
}

// TestStepFails (P17.1, P17.2): an error of the device within a step; what was begun with stays on, also where a newer
// key is in the ring.
func TestStepFails(t *testing.T) {
	d, s := tree(t, 30)
	u := turner(t, s, 2)
	begin(t, u, 2)
	step(t, "in peace", u, true, api.OK)
	begin(t, u, 3)
	stats(t, "in peace", s, 2, 5)
	d.Cut(1)
	step(t, "cut", u, true, api.ErrPower)
	stats(t, "cut", s, 3, 5)
	poisoned(t, "cut", u, true)
	is(t, "wake", d.Wake(nil), api.OK)
	is(t, "what it seals with", u.Begin(key(3)), api.ErrArg)
	u = turner(t, open(t, d, 1, 2, 3), 5)
	stats(t, "behind", u.Store, 2, 5)
	is(t, "a key that is there", u.Begin(key(3)), api.ErrRing)
	all(t, "behind", u, 5, 1, api.OK)
	is(t, "end", u.End(1), api.OK)
	is(t, "end", u.End(2), api.OK)
	opens(t, "behind", d, corners("v"), 3)
}

// TestCommitFails (P17.1, P17.2): a commit that ends with an error lets no turn begin, nor end; behind it a poisoned
// store's step is told as failed, with a turn or without one.
func TestCommitFails(t *testing.T) {
	for _, gens := range [][]uint32{{1}, {1, 2}, {1, 2, 3}} {
		d, _ := tree(t, 30)
		s := open(t, d, gens...)
		u := turner(t, s, 1)
		on := len(gens) > 1
		if on {
			step(t, gens, u, true, api.OK)
		}
		fail := func(want api.Errno, ops ...api.Op) {
			t.Helper()
			old := s.Stats().Old
			_, e := s.Commit(ops)
			is(t, gens, e, want)
			isOn(t, gens, u, on)
			stats(t, gens, s, gens[len(gens)-1], old)
		}
		fail(api.ErrBatch)
		fail(api.ErrNone, drop(99))
		fail(api.ErrArg, api.Op{})
		fail(api.ErrFull, puts(scattered(60))...)
		d.Cut(2)
		fail(api.ErrPower, drop(1))
		poisoned(t, gens, u, on)
		is(t, gens, d.Wake(nil), api.OK)
		poisoned(t, gens, u, on)
		opens(t, gens, d, corners("v"), gens...)
	}
}

// TestPoisonedRoot (P17.1, P17.2): a step may fail where Stats tell of no turn: it tells true, but none is on.
func TestPoisonedRoot(t *testing.T) {
	d := newerThanRoot(t)
	u := turner(t, open(t, d, 1, 2), 3)
	d.Cut(0)
	step(t, "cut", u, true, api.ErrPower)
	stats(t, "cut", u.Store, 2, 0)
	poisoned(t, "cut", u, false)
}

// TestBadBlocks (P17.3): pages are kept: a turn reads none of them, so that a turn is a way off bad blocks.
func TestBadBlocks(t *testing.T) {
	d, s := tree(t, 30)
	u := turner(t, s, 2)
	for p := uint32(2); p < 8; p++ {
		is(t, "bad", d.Bad(p, true), api.OK)
	}
	begin(t, u, 2)
	all(t, "all", u, 9, 2, api.OK)
	if got := s.Rows(); len(got) != 16 {
		t.Error(got)
	}
}

// TestExhausted (P17.2): at the register's end a step is told, and counts; nothing is poisoned.
func TestExhausted(t *testing.T) {
	d := disk(t, 30)
	setRegister(d, api.Register{Counter: most - 4, Tag: strings.Repeat("t", api.TagSize)})
	s, e := store.Format(d, ringOf(1))
	is(t, "format", e, api.OK)
	commit(t, s, puts(corners("v"))...)
	u := turner(t, s, 1)
	begin(t, u, 2)
	all(t, "two more", u, 9, 3, api.ErrExhausted)
	stats(t, "two more", s, 2, 2)
	image, register := d.Image(), d.Register()
	for range 2 {
		step(t, "at the end", u, true, api.ErrExhausted)
		all(t, "at the end", u, 9, 1, api.ErrExhausted)
		all(t, "at the end", u, 0, 0, api.OK)
		is(t, "at the end", u.End(1), api.ErrArg)
		isOn(t, "at the end", u, true)
	}
	is(t, "what it seals with", u.Begin(key(2)), api.ErrArg)
	begin(t, u, 3)
	step(t, "a newer key", u, true, api.ErrExhausted)
	stats(t, "a newer key", s, 2, 5)
	untouched(t, "at the end", d, image, register)
	opens(t, "at the end", d, corners("v"), 1, 2)
	is(t, "drop", s.DropKey(3), api.OK)
	u = turner(t, s, 1)
	stats(t, "the first one", s, 2, 2)
	isOn(t, "the first one", u, true)
}

// TestExhaustedOff (P17.2): at the register's end, but without a turn, steps have nothing to do.
func TestExhaustedOff(t *testing.T) {
	d := disk(t, 30)
	setRegister(d, api.Register{Counter: most - 2, Tag: strings.Repeat("t", api.TagSize)})
	s, e := store.Format(d, ringOf(1))
	is(t, "format", e, api.OK)
	u := turner(t, s, 1)
	begin(t, u, 2)
	all(t, "the last count", u, 9, 1, api.OK)
	if got := d.Register().Counter; got != most {
		t.Fatal(got)
	}
	step(t, "at the end", u, false, api.OK)
	all(t, "at the end", u, 9, 0, api.OK)
	is(t, "at the end", u.End(1), api.OK)
	opens(t, "at the end", d, nil, 2)
}
