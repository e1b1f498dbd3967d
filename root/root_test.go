package root

import (
	"encoding/binary"
	"math"
	"math/rand"
	"strings"
	"testing"

	"sphragis/api"
)

// size is how many bytes each root has.
const size = 56

// tag are 32 bytes, told apart by c.
func tag(c byte) string { return strings.Repeat(string([]byte{c}), api.TagSize) }

// ref is a right one.
func ref(page uint32, c byte) api.Ref { return api.Ref{Page: page, Tag: tag(c)} }

// nought are count bytes 0.
func nought(count int) string { return strings.Repeat("\x00", count) }

// plainRoot is one away from the edges: each byte of its numbers is another one.
func plainRoot() api.Root {
	return api.Root{Counter: 0x0807060504030201, Gen: 0x0c0b0a09, Rows: 0x0201, Tree: ref(0x14131211, 't')}
}

// said are a right root's bytes, in one more way than the package has.
func said(r api.Root) string {
	b := binary.LittleEndian.AppendUint64([]byte("sphr"), r.Counter)
	b = binary.LittleEndian.AppendUint32(b, r.Gen)
	b = binary.LittleEndian.AppendUint32(b, r.Rows)
	b = binary.LittleEndian.AppendUint32(b, r.Tree.Page)
	return string(append(b, r.Tree.Tag...))
}

// changed is the plain root with something done to it.
func changed(change func(r *api.Root)) api.Root {
	r := plainRoot()
	change(&r)
	return r
}

// edges are right roots at the edges that the chapter names.
func edges() []api.Root {
	return []api.Root{
		plainRoot(),
		{Counter: 1, Gen: 1, Tree: ref(api.FirstPage, 0)},
		{Counter: math.MaxUint64, Gen: math.MaxUint32, Rows: api.MaxRows, Tree: ref(math.MaxUint32, 0xff)},
		changed(func(r *api.Root) { r.Counter = 1 }),
		changed(func(r *api.Root) { r.Counter = 1 << 32 }),
		changed(func(r *api.Root) { r.Counter = 1 << 63 }),
		changed(func(r *api.Root) { r.Counter = math.MaxUint64 }),
		changed(func(r *api.Root) { r.Gen = 1 }),
		changed(func(r *api.Root) { r.Gen = 1 << 31 }),
		changed(func(r *api.Root) { r.Gen = math.MaxUint32 }),
		changed(func(r *api.Root) { r.Rows = 0 }),
		changed(func(r *api.Root) { r.Rows = 1 }),
		changed(func(r *api.Root) { r.Rows = 255 }),
		changed(func(r *api.Root) { r.Rows = 256 }),
		changed(func(r *api.Root) { r.Rows = api.MaxRows }),
		changed(func(r *api.Root) { r.Tree.Page = api.FirstPage }),
		changed(func(r *api.Root) { r.Tree.Page = math.MaxUint32 }),
		changed(func(r *api.Root) { r.Tree.Tag = nought(api.TagSize) }),
		changed(func(r *api.Root) { r.Tree.Tag = "sphr" + tag('s')[4:] }),
	}
}

// wrongRoots are roots with one thing wrong, and some with more.
func wrongRoots() []api.Root {
	return []api.Root{
		{},
		{Counter: 1, Gen: 1, Rows: 1},
		{Tree: ref(2, 'a')},
		changed(func(r *api.Root) { r.Counter = 0 }),
		changed(func(r *api.Root) { r.Gen = 0 }),
		changed(func(r *api.Root) { r.Counter, r.Gen = 0, 0 }),
		changed(func(r *api.Root) { r.Rows = api.MaxRows + 1 }),
		changed(func(r *api.Root) { r.Rows = 1 << 31 }),
		changed(func(r *api.Root) { r.Rows = math.MaxUint32 }),
		changed(func(r *api.Root) { r.Tree = api.Ref{} }),
		changed(func(r *api.Root) { r.Tree.Page = 0 }),
		changed(func(r *api.Root) { r.Tree.Page = 1 }),
		changed(func(r *api.Root) { r.Tree = ref(0, 0) }),
		changed(func(r *api.Root) { r.Tree.Tag = "" }),
		changed(func(r *api.Root) { r.Tree.Tag = r.Tree.Tag[1:] }),
		changed(func(r *api.Root) { r.Tree.Tag += "t" }),
		changed(func(r *api.Root) { r.Tree.Tag += r.Tree.Tag }),
	}
}

// anyTag are 32 bytes by chance.
func anyTag(r *rand.Rand) string {
	b := make([]byte, api.TagSize)
	r.Read(b)
	return string(b)
}

// anyRoot is a right one by chance: great numbers and small ones.
func anyRoot(r *rand.Rand) api.Root {
	return api.Root{
		Counter: max(1, r.Uint64()>>r.Intn(64)),
		Gen:     max(1, r.Uint32()>>r.Intn(32)),
		Rows:    uint32(r.Intn(api.MaxRows + 1)),
		Tree:    api.Ref{Page: max(api.FirstPage, r.Uint32()>>r.Intn(32)), Tag: anyTag(r)},
	}
}

// TestRight (P15.1): roots at the edges and by chance are right, wrong ones are not.
func TestRight(t *testing.T) {
	for i, r := range edges() {
		if !Right(r) {
			t.Errorf("edge %d: %+v is not right", i, r)
		}
	}
	for i, r := range wrongRoots() {
		if Right(r) {
			t.Errorf("wrong %d: %+v is right", i, r)
		}
	}
	chance := rand.New(rand.NewSource(1))
	for range 1000 {
		if r := anyRoot(chance); !Right(r) {
			t.Errorf("%+v is not right", r)
		}
	}
}

// TestEncodeWrong (P15.1, R2): what is no right root has no bytes.
func TestEncodeWrong(t *testing.T) {
	for i, r := range wrongRoots() {
		if s, e := Encode(r); e != api.ErrRoot || s != "" {
			t.Errorf("%d: Encode of %+v: %x %d", i, r, s, e)
		}
	}
}

// TestWrittenOut (P15.1): bytes that are written out here, as the chapter says them.
func TestWrittenOut(t *testing.T) {
	for _, c := range []struct {
		r    api.Root
		want string
	}{
		{plainRoot(), "sphr\x01\x02\x03\x04\x05\x06\x07\x08\x09\x0a\x0b\x0c\x01\x02\x00\x00\x11\x12\x13\x14" + tag('t')},
		{api.Root{Counter: 5, Gen: 1, Rows: 2, Tree: ref(258, 'g')},
			"sphr\x05" + nought(7) + "\x01\x00\x00\x00" + "\x02\x00\x00\x00" + "\x02\x01\x00\x00" + tag('g')},
		{api.Root{Counter: 1, Gen: 1, Tree: ref(2, 0)}, "sphr\x01" + nought(7) + "\x01" + nought(7) + "\x02" + nought(35)},
		{api.Root{Counter: math.MaxUint64, Gen: math.MaxUint32, Rows: 1000, Tree: ref(math.MaxUint32, 0xff)},
			"sphr" + strings.Repeat("\xff", 12) + "\xe8\x03\x00\x00" + strings.Repeat("\xff", 36)},
	} {
		if s, e := Encode(c.r); e != api.OK || s != c.want || len(s) != size {
			t.Errorf("Encode of %+v: %x %d", c.r, s, e)
		}
		if r, e := Decode(c.want); e != api.OK || r != c.r {
			t.Errorf("Decode of %x: %+v %d", c.want, r, e)
		}
	}
}

// thereAndBack tells whether a right root has the bytes that the chapter says, and is read from them again.
func thereAndBack(t *testing.T, r api.Root) {
	t.Helper()
	s, e := Encode(r)
	if e != api.OK || s != said(r) || len(s) != size || len(s) > api.Content {
		t.Errorf("Encode of %+v: %x %d", r, s, e)
	}
	if q, e := Decode(s); e != api.OK || q != r {
		t.Errorf("Decode of %x: %+v %d", s, q, e)
	}
}

// TestThereAndBack (P15.1, P15.3): roots at the edges and by chance.
func TestThereAndBack(t *testing.T) {
	for _, r := range edges() {
		thereAndBack(t, r)
	}
	chance := rand.New(rand.NewSource(2))
	for range 1000 {
		thereAndBack(t, anyRoot(chance))
	}
}

// refused tells whether s are no root's bytes.
func refused(t *testing.T, s string) {
	t.Helper()
	if r, e := Decode(s); e != api.ErrRoot || r != (api.Root{}) {
		t.Errorf("Decode of %x: %+v %d", s, r, e)
	}
}

// TestDecodeWrong (P15.1, R2): bytes that say a root which is not right, or no root at all.
func TestDecodeWrong(t *testing.T) {
	for _, r := range wrongRoots() {
		refused(t, said(r))
	}
	s := said(plainRoot())
	for _, x := range []string{
		"", "s", "sph", "sphr", "sphrsphr", "\x00", nought(size), "sphr" + nought(size-4), nought(4) + s[4:],
		"Sphr" + s[4:], "spht" + s[4:], "SPHR" + s[4:], "rhps" + s[4:], "\x00sphr" + s[4:], "\x00sph" + s[4:],
		s[4:], s[4:] + "sphr", "sphr" + s, s + s, strings.Repeat("sphr", size/4),
		strings.Repeat("\xff", size), strings.Repeat("sphr", 1<<18), s + nought(1<<20),
		s + nought(api.Content-size), s + nought(api.Body-size), s + nought(api.Block-size),
	} {
		refused(t, x)
	}
}

// TestCutOrLonger (P15.1, P15.3): a root's bytes are no others', neither cut short anywhere nor with more around them.
func TestCutOrLonger(t *testing.T) {
	for _, r := range edges() {
		s := said(r)
		for i := range len(s) {
			refused(t, s[:i])
			refused(t, s[:i]+s[i+1:])
			refused(t, s[i+1:])
		}
		for c := range 256 {
			refused(t, s+string([]byte{byte(c)}))
			refused(t, string([]byte{byte(c)})+s)
		}
	}
}

// TestOneToOne (P15.3): whatever bytes are read as a root are those that it has, and others are refused. A byte of the
// mark that is another one is refused; one of the tag never is.
func TestOneToOne(t *testing.T) {
	for _, r := range edges() {
		s := said(r)
		for i := range len(s) {
			for c := range 256 {
				x := s[:i] + string([]byte{byte(c)}) + s[i+1:]
				q, e := Decode(x)
				if e != api.OK {
					refused(t, x)
				} else if again, back := Encode(q); back != api.OK || again != x || !Right(q) || (q == r) != (x == s) {
					t.Errorf("Decode of %x: %+v, and back %x %d", x, q, again, back)
				}
				if i < 4 && (e == api.OK) != (x == s) || i >= size-api.TagSize && e != api.OK {
					t.Errorf("Decode of %x: %d", x, e)
				}
			}
		}
	}
}

// TestNoTwoAlike (P15.3): roots that differ in one thing have other bytes.
func TestNoTwoAlike(t *testing.T) {
	seen := map[string]api.Root{}
	for _, r := range []api.Root{
		plainRoot(),
		changed(func(r *api.Root) { r.Counter++ }),
		changed(func(r *api.Root) { r.Counter ^= 1 << 63 }),
		changed(func(r *api.Root) { r.Gen++ }),
		changed(func(r *api.Root) { r.Gen ^= 1 << 31 }),
		changed(func(r *api.Root) { r.Rows++ }),
		changed(func(r *api.Root) { r.Rows ^= 1 << 8 }),
		changed(func(r *api.Root) { r.Tree.Page++ }),
		changed(func(r *api.Root) { r.Tree.Page ^= 1 << 31 }),
		changed(func(r *api.Root) { r.Tree.Tag = "u" + r.Tree.Tag[1:] }),
		changed(func(r *api.Root) { r.Tree.Tag = r.Tree.Tag[1:] + "u" }),
		changed(func(r *api.Root) { r.Gen, r.Tree.Page = r.Tree.Page, r.Gen }),
	} {
		s, e := Encode(r)
		if q, ok := seen[s]; ok || e != api.OK {
			t.Errorf("%+v and %+v: %x %d", r, q, s, e)
		}
		seen[s] = r
	}
}

// TestSlot (P15.1): block 0 or 1, by the count's last bit.
func TestSlot(t *testing.T) {
	for _, c := range []struct {
		counter uint64
		want    uint32
	}{
		{0, 0}, {1, 1}, {2, 0}, {3, 1}, {4, 0}, {5, 1}, {7, 1}, {8, 0}, {255, 1}, {256, 0}, {257, 1}, {1<<32 - 1, 1}, {1 << 32, 0},
		{1<<32 + 1, 1}, {1 << 63, 0}, {1<<63 + 1, 1}, {math.MaxUint64 - 1, 0}, {math.MaxUint64, 1},
	} {
		if got := Slot(c.counter); got != c.want {
			t.Errorf("Slot of %d: %d", c.counter, got)
		}
	}
}

// TestNext (P15.2): the root of the count that follows, and of all else as it is given; up to the greatest count.
func TestNext(t *testing.T) {
	for _, r := range edges() {
		if got, e := Next(r.Counter-1, r.Gen, int(r.Rows), r.Tree); e != api.OK || got != r {
			t.Errorf("Next towards %+v: %+v %d", r, got, e)
		}
	}
	chance := rand.New(rand.NewSource(3))
	for range 1000 {
		r := anyRoot(chance)
		if got, e := Next(r.Counter-1, r.Gen, int(r.Rows), r.Tree); e != api.OK || got != r {
			t.Errorf("Next towards %+v: %+v %d", r, got, e)
		}
	}
}

// TestNextExample (P15.2): the chapter's.
func TestNextExample(t *testing.T) {
	tree := ref(9, 'x')
	r, e := Next(4, 1, 2, tree)
	if e != api.OK || r != (api.Root{Counter: 5, Gen: 1, Rows: 2, Tree: tree}) || Slot(r.Counter) != 1 {
		t.Errorf("%+v %d, %d", r, e, Slot(r.Counter))
	}
}

// given is what Next is handed beside the count.
type given struct {
	gen  uint32
	rows int
	tree api.Ref
}

// wrongGiven are such of which no root is right.
func wrongGiven() []given {
	tree := ref(2, 'a')
	out := []given{
		{0, 2, tree},
		{1, 2, api.Ref{}},
		{1, 2, ref(0, 'a')},
		{1, 2, ref(1, 'a')},
		{1, 2, api.Ref{Page: 2}},
		{1, 2, api.Ref{Page: 2, Tag: tree.Tag[1:]}},
		{1, 2, api.Ref{Page: 2, Tag: tree.Tag + "a"}},
		{0, -1, api.Ref{}},
	}
	for _, rows := range []int{
		-1, -2, -1000, api.MaxRows + 1, 2000, math.MaxInt32, math.MinInt32, math.MaxUint32, math.MaxInt, math.MinInt,
		1 << 32, 1<<32 + 2, 1<<32 + api.MaxRows, -1 << 32, -1<<32 + 2, -1<<63 + 2, 7<<32 + 1,
	} {
		out = append(out, given{1, rows, tree})
	}
	return out
}

// TestNextWrong (P15.2, R2): ErrRoot, unless the root is right, at all counts but the greatest one.
func TestNextWrong(t *testing.T) {
	for _, g := range wrongGiven() {
		for _, counter := range []uint64{0, 1, 4, 1 << 32, math.MaxUint64 - 1} {
			if r, e := Next(counter, g.gen, g.rows, g.tree); e != api.ErrRoot || r != (api.Root{}) {
				t.Errorf("Next of %d and %+v: %+v %d", counter, g, r, e)
			}
		}
	}
}

// TestExhausted (P15.2, R1, R2): behind the greatest count there is none; that is told ahead of what else is wrong.
func TestExhausted(t *testing.T) {
	right := given{1, 2, ref(2, 'a')}
	for _, g := range append(wrongGiven(), right) {
		if r, e := Next(math.MaxUint64, g.gen, g.rows, g.tree); e != api.ErrExhausted || r != (api.Root{}) {
			t.Errorf("Next of the greatest count and %+v: %+v %d", g, r, e)
		}
	}
	last, e := Next(math.MaxUint64-1, right.gen, right.rows, right.tree)
	if e != api.OK || last.Counter != math.MaxUint64 || Slot(last.Counter) != 1 {
		t.Errorf("the last root: %+v %d", last, e)
	}
	thereAndBack(t, last)
}

// TestTwoSlots (P15.3): a root and the next one have two slots, both of them superblocks'.
func TestTwoSlots(t *testing.T) {
	chance := rand.New(rand.NewSource(4))
	for i := range 1000 {
		r := anyRoot(chance)
		switch i {
		case 0:
			r.Counter = 1
		case 1:
			r.Counter = math.MaxUint64 - 1
		}
		if r.Counter == math.MaxUint64 {
			continue
		}
		q, e := Next(r.Counter, r.Gen, int(r.Rows), r.Tree)
		a, b := Slot(r.Counter), Slot(q.Counter)
		if e != api.OK || a == b || a >= api.FirstPage || b >= api.FirstPage {
			t.Errorf("%+v and %+v: slots %d and %d, %d", r, q, a, b, e)
		}
	}
}

// TestSameAgain (R4): what is answered hangs on what is given alone.
func TestSameAgain(t *testing.T) {
	for _, r := range edges() {
		s, _ := Encode(r)
		refused(t, s[1:])
		Next(math.MaxUint64, 0, -1, api.Ref{})
		again, e := Encode(r)
		q, back := Decode(s)
		if e != api.OK || back != api.OK || again != s || q != r {
			t.Errorf("%+v: %x %d, %+v %d", r, again, e, q, back)
		}
	}
}
