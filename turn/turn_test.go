package turn

import (
	"fmt"
	"math"
	"slices"
	"strings"
	"testing"

	"sphragis/api"
	"sphragis/device"
	"sphragis/grove"
	"sphragis/root"
	"sphragis/store"
	"sphragis/vault"
)

// TestExample (P17.2): the document's: of one page, at pace 5.
func TestExample(t *testing.T) {
	d := filled(t, 20, 1, corners("v")[:1])
	u := turner(t, open(t, d, 1), 5)
	is(t, "begin", u.Begin(key(2)), api.OK)
	all(t, "all", u, 9, 1, api.OK)
	is(t, "end", u.End(1), api.OK)
	opens(t, "behind", d, corners("v")[:1], 2)
}

// noTurner tells a fault, unless New answers that error, and no turner.
func noTurner(t *testing.T, what any, s *store.Store, pace int, want api.Errno) {
	t.Helper()
	if u, e := New(s, pace); u != nil || e != want {
		t.Errorf("%v: New(%d): %v, %d instead of %d", what, pace, u != nil, e, want)
	}
}

// TestNew (P17.1): each pace from 1 to 1000, and none else; a nil store, and one that no call gave, ahead of that; a
// store that was poisoned will do. Nothing is done to the store.
func TestNew(t *testing.T) {
	d, s := tree(t, 20)
	want, image, register := s.Stats(), d.Image(), d.Register()
	for _, pace := range []int{0, -1, 1001, 1 << 32, 1<<32 + 1, math.MinInt, math.MaxInt} {
		noTurner(t, "pace", s, pace, api.ErrArg)
		noTurner(t, "nil", nil, pace, api.ErrNil)
		noTurner(t, "none", &store.Store{}, pace, api.ErrNil)
	}
	for pace := 1; pace <= 1000; pace++ {
		isOn(t, pace, turner(t, s, pace), false)
		noTurner(t, "nil", nil, pace, api.ErrNil)
		noTurner(t, "none", &store.Store{}, pace, api.ErrNil)
	}
	if s.Stats() != want {
		t.Error(s.Stats())
	}
	untouched(t, "new", d, image, register)
	d.Cut(0)
	s.Commit([]api.Op{drop(1)})
	isOn(t, "poisoned", turner(t, s, 1), false)
	noTurner(t, "poisoned", s, 0, api.ErrArg)
}

// TestNil (P17.1, P17.2, R4): of no turner, and of one that no call gave; ahead of all other errors.
func TestNil(t *testing.T) {
	_, s := tree(t, 20)
	for name, u := range map[string]*Turner{"nil": nil, "none": {}, "of a store": {Store: s}} {
		for _, k := range []api.Key{{}, key(1), key(2)} {
			is(t, name, u.Begin(k), api.ErrNil)
		}
		if u.On() {
			t.Error(name, "on")
		}
		step(t, name, u, false, api.ErrNil)
		for _, most := range []int{math.MinInt, -1, 0, 1, math.MaxInt} {
			all(t, name, u, most, 0, api.ErrNil)
		}
		for _, gen := range []uint32{0, 1, 2} {
			is(t, name, u.End(gen), api.ErrNil)
		}
	}
	stats(t, "behind", s, 1, 0)
}

// TestEmbeds (P17.1, Ways): what a store can do, its turner can: it is the same store.
func TestEmbeds(t *testing.T) {
	d, s := tree(t, 20)
	u := turner(t, s, 2)
	commit(t, u.Store, drop(16))
	if at, e := u.Commit([]api.Op{drop(15)}); at != 0 || e != api.OK {
		t.Error(at, e)
	}
	whole(t, "store", s, corners("v")[:14])
	if r, e := u.Get(3); r != corners("v")[2] || e != api.OK {
		t.Error(r, e)
	}
	l, more, e := u.Ask(api.Query{Kind: api.QScan, K: 2})
	if !slices.Equal(l, corners("v")[:2]) || !more || e != api.OK {
		t.Error(l, more, e)
	}
	if n, e := u.Scrub(); n != 5 || e != api.OK {
		t.Error(n, e)
	}
	if u.Stats() != s.Stats() || !slices.Equal(u.Rows(), s.Rows()) {
		t.Error(u.Stats(), u.Rows())
	}
	is(t, "key", u.AddKey(key(2)), api.OK)
	isOn(t, "key", u, true)
	if left, e := u.Rekey(9); left != 0 || e != api.OK {
		t.Error(left, e)
	}
	is(t, "drop", u.DropKey(1), api.OK)
	opens(t, "behind", d, corners("v")[:14], 2)
}

// TestOnPages (P17.1): pages that are older than the ring's newest generation are a turn, whoever let it begin.
func TestOnPages(t *testing.T) {
	d, s := tree(t, 20)
	u := turner(t, s, 2)
	isOn(t, "new", u, false)
	is(t, "an added key", s.AddKey(key(5)), api.OK)
	isOn(t, "an added key", u, true)
	is(t, "a dropped key", s.DropKey(5), api.OK)
	isOn(t, "a dropped key", u, false)
	is(t, "an added key", s.AddKey(key(5)), api.OK)
	for old := 3; old >= 0; old-- {
		isOn(t, old, u, true)
		if left, e := s.Rekey(1); left != max(old, 0) || e != api.OK {
			t.Fatal(old, left, e)
		}
		if old == 1 {
			isOn(t, "a turner of the half", turner(t, s, 9), true)
			isOn(t, "a turner behind an Open", turner(t, open(t, copyOf(t, d), 1, 5), 9), true)
			isOn(t, "with a newer key", turner(t, open(t, copyOf(t, d), 1, 5, 7), 9), true)
		}
	}
	isOn(t, "behind", u, false)
	isOn(t, "behind an Open", turner(t, open(t, d, 1, 5), 9), false)
	isOn(t, "with an older key", turner(t, open(t, d, 1, 2, 5), 9), false)
	isOn(t, "with a newer key", turner(t, open(t, d, 1, 5, 7), 9), true)
}

// TestOnBegun (P17.1): what was begun with is above what is sealed with: also where no page is older, as its key has
// been dropped; the last Begin counts, greater or not; it is its own turner's.
func TestOnBegun(t *testing.T) {
	_, s := tree(t, 20)
	u, other := turner(t, s, 9), turner(t, s, 9)
	begin(t, u, 5)
	isOn(t, "begun", u, true)
	isOn(t, "begun by another one", other, true)
	is(t, "drop", s.DropKey(5), api.OK)
	stats(t, "dropped", s, 1, 0)
	isOn(t, "dropped", u, true)
	isOn(t, "dropped", other, false)
	is(t, "key", s.AddKey(key(4)), api.OK)
	step(t, "to a key between", u, true, api.OK)
	stats(t, "to a key between", s, 4, 0)
	isOn(t, "to a key between", u, true)
	isOn(t, "to a key between", other, false)
	is(t, "key", s.AddKey(key(5)), api.OK)
	step(t, "to its key", u, false, api.OK)
	isOn(t, "to its key", u, false)
	begin(t, u, 9)
	is(t, "drop", s.DropKey(9), api.OK)
	begin(t, u, 7)
	step(t, "the last Begin", u, false, api.OK)
	stats(t, "the last Begin", s, 7, 0)
	isOn(t, "the last Begin", u, false)
	begin(t, u, 9)
	begin(t, u, 8)
	step(t, "the newest key", u, false, api.OK)
	stats(t, "the newest key", s, 9, 0)
	is(t, "drop", u.End(7), api.OK)
	begin(t, u, math.MaxUint32)
	step(t, "the greatest generation", u, false, api.OK)
	is(t, "none above", u.Begin(key(math.MaxUint32)), api.ErrArg)
}

// newerThanRoot is a device whose pages are of generation 2, but what it seals with is 1.
func newerThanRoot(t *testing.T) *device.Device {
	t.Helper()
	d := filled(t, 20, 1, nil)
	hand := func(gen uint32) *vault.Vault {
		v, e := vault.New(d, ringOf(1, 2), gen, 100)
		is(t, "vault", e, api.OK)
		return v
	}
	pages, e := grove.Save(hand(2), corners("v"), nil)
	is(t, "save", e, api.OK)
	r, e := root.Next(d.Register().Counter, 1, 16, pages[len(pages)-1].Ref)
	is(t, "root", e, api.OK)
	text, _ := root.Encode(r)
	tag, _ := hand(1).Super(root.Slot(r.Counter), text)
	d.Flush()
	is(t, "advance", d.Advance(tag), api.OK)
	return d
}

// TestOnAsStatsTell (P17.1, P17.2): where no page is older, but what it seals with is, and no Begin told OK, Stats tell
// of no turn: All does nothing, End may; a step seals with the newest generation all the same.
func TestOnAsStatsTell(t *testing.T) {
	d := newerThanRoot(t)
	u := turner(t, open(t, d, 1, 2), 3)
	stats(t, "ahead", u.Store, 1, 0)
	is(t, "a key that is there", u.Begin(key(2)), api.ErrRing)
	isOn(t, "ahead", u, false)
	all(t, "ahead", u, 5, 0, api.OK)
	is(t, "sealed with", u.End(1), api.ErrArg)
	count := d.Register().Counter
	step(t, "step", u, false, api.OK)
	stats(t, "step", u.Store, 2, 0)
	if d.Register().Counter != count+1 {
		t.Error("nothing was done")
	}
	is(t, "end", u.End(1), api.OK)
	opens(t, "behind", d, corners("v"), 2)

	u = turner(t, open(t, newerThanRoot(t), 1, 2), 3)
	begin(t, u, 9)
	all(t, "begun", u, 9, 2, api.OK)
	stats(t, "begun", u.Store, 9, 0)
}

// TestBegin (P17.2): a generation that is not above what is sealed with is told ahead of what AddKey tells; a key that
// was begun with is in the ring, but not sealed with, and the device is as it was.
func TestBegin(t *testing.T) {
	d := filled(t, 20, 5, corners("v"))
	s := open(t, d, 2, 5)
	u := turner(t, s, 2)
	image, register := d.Image(), d.Register()
	short, long := strings.Repeat("k", 31), strings.Repeat("k", 33)
	for name, c := range map[string]struct {
		k    api.Key
		want api.Errno
	}{
		"empty":                    {api.Key{}, api.ErrArg},
		"generation 0":             {key(0), api.ErrArg},
		"below, in the ring":       {key(2), api.ErrArg},
		"below, not in the ring":   {key(3), api.ErrArg},
		"sealed with":              {key(5), api.ErrArg},
		"sealed with, another one": {api.Key{Gen: 5, Secret: key(6).Secret}, api.ErrArg},
		"below, a short secret":    {api.Key{Gen: 4, Secret: short}, api.ErrArg},
		"equal, a short secret":    {api.Key{Gen: 5, Secret: short}, api.ErrArg},
		"no secret":                {api.Key{Gen: 6}, api.ErrRing},
		"a short secret":           {api.Key{Gen: 6, Secret: short}, api.ErrRing},
		"a long secret":            {api.Key{Gen: math.MaxUint32, Secret: long}, api.ErrRing},
	} {
		is(t, name, u.Begin(c.k), c.want)
		isOn(t, name, u, false)
		stats(t, name, s, 5, 0)
	}
	begin(t, u, 8)
	stats(t, "begun", s, 5, 5)
	is(t, "twice", u.Begin(key(8)), api.ErrRing)
	is(t, "sealed with still", u.Begin(key(5)), api.ErrArg)
	begin(t, u, 6)
	for gen := uint32(9); gen < 21; gen++ {
		begin(t, u, gen)
	}
	is(t, "more than 16", u.Begin(key(21)), api.ErrRing)
	is(t, "more than 16, and below", u.Begin(key(4)), api.ErrArg)
	stats(t, "many", s, 5, 5)
	untouched(t, "begun", d, image, register)
	opens(t, "begun", d, corners("v"), 5)
	all(t, "all", u, 9, 2, api.OK)
	stats(t, "all", s, 20, 0)
	is(t, "not above any more", u.Begin(key(20)), api.ErrArg)
	is(t, "not above any more", u.Begin(key(7)), api.ErrArg)
	opens(t, "all", d, corners("v"), 20)
}

// TestBeginFails (P17.1, P17.2, R2): a Begin that told an error is none: what was begun with stays.
func TestBeginFails(t *testing.T) {
	_, s := tree(t, 20)
	u := turner(t, s, 9)
	fail := func(what string) {
		t.Helper()
		is(t, what, u.Begin(key(0)), api.ErrArg)
		is(t, what, u.Begin(key(1)), api.ErrArg)
		is(t, what, u.Begin(api.Key{Gen: 9, Secret: "short"}), api.ErrRing)
	}
	fail("off")
	isOn(t, "off", u, false)
	begin(t, u, 5)
	is(t, "drop", s.DropKey(5), api.OK)
	fail("on")
	isOn(t, "on", u, true)
	is(t, "key", s.AddKey(key(5)), api.OK)
	fail("on")
	is(t, "twice", u.Begin(key(5)), api.ErrRing)
	step(t, "step", u, false, api.OK)
	isOn(t, "off again", u, false)
}

// TestStep (P17.2): a step seals anew as many pages as the pace tells; it tells whether the turn is on still; without a
// turn it does nothing.
func TestStep(t *testing.T) {
	for _, c := range []struct {
		pace int
		left []int // older pages behind each step: the Inner page is always sealed anew
	}{{1, []int{3, 2, 1, 0}}, {2, []int{2, 0}}, {3, []int{1, 0}}, {4, []int{0}}, {5, []int{0}}, {1000, []int{0}}} {
		d, s := tree(t, 30)
		u := turner(t, s, c.pace)
		image, register := d.Image(), d.Register()
		step(t, "no turn", u, false, api.OK)
		begin(t, u, 2)
		untouched(t, c.pace, d, image, register)
		for i, left := range c.left {
			step(t, c.pace, u, left > 0, api.OK)
			isOn(t, c.pace, u, left > 0)
			stats(t, c.pace, s, 2, left)
			if got := d.Register().Counter - register.Counter; got != uint64(i+1) {
				t.Error(c.pace, i, got)
			}
		}
		image, register = d.Image(), d.Register()
		for range 3 {
			step(t, "behind", u, false, api.OK)
		}
		untouched(t, c.pace, d, image, register)
		if got := blocksOf(d, 2); got < 6 {
			t.Error(c.pace, got, "blocks of the new generation")
		}
	}
}

// TestAll (P17.2): steps as long as the turn is on, at most so many; it can be gone on with.
func TestAll(t *testing.T) {
	for _, c := range []struct{ pace, most, done, old int }{
		{1, 0, 0, 5}, {1, 1, 1, 3}, {1, 2, 2, 2}, {1, 3, 3, 1}, {1, 4, 4, 0}, {1, 5, 4, 0}, {1, math.MaxInt, 4, 0},
		{2, 1, 1, 2}, {2, 2, 2, 0}, {2, 3, 2, 0}, {1000, 0, 0, 5}, {1000, 1, 1, 0}, {1000, 2, 1, 0},
	} {
		what := fmt.Sprint(c)
		d, s := tree(t, 30)
		u := turner(t, s, c.pace)
		count := d.Register().Counter
		for _, most := range []int{-1, math.MinInt} {
			all(t, what, u, most, 0, api.ErrArg)
		}
		all(t, "no turn", u, c.most, 0, api.OK)
		begin(t, u, 2)
		for _, most := range []int{-1, math.MinInt} {
			all(t, what, u, most, 0, api.ErrArg)
		}
		stats(t, what, s, 1, 5)
		all(t, what, u, c.most, c.done, api.OK)
		if got := s.Stats(); got.Old != c.old || got.Counter != count+uint64(c.done) {
			t.Error(what, got)
		}
		isOn(t, what, u, c.old > 0)
		if _, e := u.All(9); e != api.OK || u.On() {
			t.Error(what, e)
		}
		all(t, "behind", u, math.MaxInt, 0, api.OK)
		opens(t, what, d, corners("v"), 2)
	}
}

// TestAllDropped (P17.2, R1): where the key that was begun with has been dropped, a turn stays on, whatever steps are
// done: as many are as may be, and All ends.
func TestAllDropped(t *testing.T) {
	for _, most := range []int{0, 1, 2, 3, 4, 5, 50, 1 << 40, math.MaxInt} {
		d, s := tree(t, 30)
		u := turner(t, s, 2)
		begin(t, u, 9)
		is(t, "drop", s.DropKey(9), api.OK)
		want, image, register := s.Stats(), d.Image(), d.Register()
		all(t, "nothing to do", u, most, most, api.OK)
		step(t, "nothing to do", u, true, api.OK)
		if s.Stats() != want {
			t.Error(most, s.Stats())
		}
		untouched(t, most, d, image, register)
		is(t, "on still", u.End(1), api.ErrArg)
		is(t, "an older key", s.AddKey(key(3)), api.OK)
		all(t, "two steps", u, most, most, api.OK)
		if got := d.Register().Counter - register.Counter; got != uint64(min(most, 2)) {
			t.Error(most, got, "steps did something")
		}
		isOn(t, most, u, true)
		is(t, "its key", s.AddKey(key(9)), api.OK)
		all(t, "two steps", u, 50, 2, api.OK)
		isOn(t, most, u, false)
		stats(t, most, s, 9, 0)
		opens(t, most, d, corners("v"), 9)
	}
}

// TestEnd (P17.2): not as long as the turn is on, whatever the generation; else what DropKey tells.
func TestEnd(t *testing.T) {
	d := filled(t, 30, 3, corners("v"))
	u := turner(t, open(t, d, 2, 3), 2)
	for _, gen := range []uint32{0, 1, 4} {
		is(t, "no key", u.End(gen), api.ErrKey)
	}
	is(t, "sealed with", u.End(3), api.ErrArg)
	is(t, "not needed, without any turn", u.End(2), api.OK)
	is(t, "again", u.AddKey(key(2)), api.OK)
	begin(t, u, 5)
	for _, on := range []bool{true, false} {
		for gen := range uint32(7) {
			is(t, "on", u.End(gen), api.ErrArg)
		}
		step(t, "step", u, on, api.OK)
	}
	is(t, "no key", u.End(0), api.ErrKey)
	is(t, "no key", u.End(4), api.ErrKey)
	is(t, "sealed with", u.End(5), api.ErrArg)
	is(t, "not needed", u.End(2), api.OK)
	is(t, "not there", u.End(2), api.ErrKey)
	is(t, "not needed", u.End(3), api.OK)
	is(t, "not there", u.End(3), api.ErrKey)
	is(t, "the last one", u.End(5), api.ErrArg)
	opens(t, "behind", d, corners("v"), 5)
	if _, e := store.Open(copyOf(t, d), ringOf(3)); e != api.ErrKey {
		t.Error("the old key opens", e)
	}
}

// TestFull (P17.1, P17.2): a step without room is told, and counts; it stays sealed with the newest generation, and the
// turn is on; it goes on when there is room.
func TestFull(t *testing.T) {
	d, s := tree(t, 8) // one block is free
	u := turner(t, s, 1)
	begin(t, u, 2)
	for range 2 {
		step(t, "full", u, true, api.ErrFull)
		all(t, "full", u, 9, 1, api.ErrFull)
		all(t, "full", u, 0, 0, api.OK)
		isOn(t, "full", u, true)
		stats(t, "full", s, 2, 5)
		is(t, "full", u.End(1), api.ErrArg)
		is(t, "sealed with", u.Begin(key(2)), api.ErrArg)
		whole(t, "full", s, corners("v"))
		opens(t, "full", d, corners("v"), 1)
	}
	if at, e := u.Commit(puts(scattered(12))); at != 0 || e != api.ErrFull {
		t.Error(at, e)
	}
	isOn(t, "a commit without room", u, true)
	stats(t, "a commit without room", s, 2, 5)
	commit(t, s, drop(9), drop(10), drop(11), drop(12))
	if got := s.Stats(); got.Old != 3 || got.Pages != 4 {
		t.Error(got)
	}
	isOn(t, "fewer rows", u, true)
	all(t, "room", u, 9, 3, api.OK)
	isOn(t, "room", u, false)
	is(t, "end", u.End(1), api.OK)
	opens(t, "room", d, slices.Delete(corners("v"), 8, 12), 2)
}
