package rows

import (
	"encoding/binary"
	"math"
	"math/rand"
	"reflect"
	"slices"
	"strings"
	"testing"

	"sphragis/api"
)

const last = api.MaxPlace - 1 // the plane's greatest place

// tag are 32 bytes, told apart by c.
func tag(c byte) string { return strings.Repeat(string([]byte{c}), api.TagSize) }

// ref is a right one.
func ref(page uint32, c byte) api.Ref { return api.Ref{Page: page, Tag: tag(c)} }

// nought are count bytes 0.
func nought(count int) string { return strings.Repeat("\x00", count) }

// leaf is a page of rows, without more.
func leaf(l ...api.Row) api.Page { return api.Page{Kind: api.Leaf, Rows: l} }

// inner is a page of a cell and kids.
func inner(x, y uint32, level int, l ...api.Ref) api.Page {
	return api.Page{Kind: api.Inner, Cell: api.Cell{X: x, Y: y, Level: level}, Kids: l}
}

// same tells whether two pages are: nil and empty lists are one.
func same(p, q api.Page) bool {
	return p.Kind == q.Kind && p.Cell == q.Cell && p.Next == q.Next && slices.Equal(p.Rows, q.Rows) && slices.Equal(p.Kids, q.Kids)
}

// said are a right page's bytes, in one more way than the package has.
func said(p api.Page) string {
	refer := func(b []byte, r api.Ref) []byte {
		b = binary.LittleEndian.AppendUint32(b, r.Page)
		return append(append(b, r.Tag...), make([]byte, api.TagSize-len(r.Tag))...)
	}
	if p.Kind == api.Leaf {
		b := refer([]byte{1, byte(len(p.Rows))}, p.Next)
		for _, r := range p.Rows {
			b = binary.LittleEndian.AppendUint64(b, r.Id)
			b = binary.LittleEndian.AppendUint32(b, r.X)
			b = binary.LittleEndian.AppendUint32(b, r.Y)
			b = append(append(b, byte(len(r.Val))), r.Val...)
		}
		return string(b)
	}
	b := []byte{2, byte(len(p.Kids)), byte(p.Cell.Level)}
	b = binary.LittleEndian.AppendUint32(b, p.Cell.X)
	b = binary.LittleEndian.AppendUint32(b, p.Cell.Y)
	for _, r := range p.Kids {
		b = refer(b, r)
	}
	return string(b)
}

// anyText are bytes by chance, often only a few kinds of them.
func anyText(r *rand.Rand, size int) string {
	b := make([]byte, size)
	few := r.Intn(2) == 0
	for i := range b {
		b[i] = byte(r.Intn(256))
		if few {
			b[i] %= 3
		}
	}
	return string(b)
}

// anyRef is a right one by chance, often near the least or the greatest page.
func anyRef(r *rand.Rand) api.Ref {
	page := r.Uint32()
	switch r.Intn(3) {
	case 0:
		page = uint32(r.Intn(3))
	case 1:
		page = math.MaxUint32 - uint32(r.Intn(3))
	}
	return api.Ref{Page: max(page, api.FirstPage), Tag: anyText(r, api.TagSize)}
}

// anyLeaf is a right one by chance.
func anyLeaf(r *rand.Rand) api.Page {
	p := api.Page{Kind: api.Leaf}
	if r.Intn(2) == 0 {
		p.Next = anyRef(r)
	}
	id := uint64(r.Intn(3))
	for range r.Intn(api.Bucket + 1) {
		p.Rows = append(p.Rows, api.Row{Id: id, X: r.Uint32() >> 1, Y: r.Uint32() >> 1, Val: anyText(r, r.Intn(api.MaxVal+1))})
		id += 1 + r.Uint64()>>(3+r.Intn(61))
	}
	return p
}

// anyInner is a right one by chance.
func anyInner(r *rand.Rand) api.Page {
	level := 1 + r.Intn(31)
	p := inner(r.Uint32()>>1>>level<<level, r.Uint32()>>1>>level<<level, level)
	for range 2 + r.Intn(3) {
		p.Kids = append(p.Kids, anyRef(r))
	}
	return p
}

// pages calls body with many right pages, of both kinds.
func pages(seed int64, body func(r *rand.Rand, p api.Page)) {
	r := rand.New(rand.NewSource(seed))
	for range 1000 {
		body(r, anyLeaf(r))
		body(r, anyInner(r))
	}
}

// edges are right pages at the edges that the chapter names.
func edges() []api.Page {
	long := strings.Repeat("\xff", api.MaxVal)
	four := []api.Row{{Id: 0}, {Id: 1, X: last, Y: last, Val: long}, {Id: 2, Val: long}, {Id: math.MaxUint64, X: last, Val: long}}
	return []api.Page{
		leaf(),
		leaf(four[0]),
		leaf(four[3]),
		leaf(four...),
		{Kind: api.Leaf, Next: ref(2, 0)},
		{Kind: api.Leaf, Rows: four, Next: ref(math.MaxUint32, 0xff)},
		{Kind: api.Leaf, Rows: []api.Row{}, Kids: []api.Ref{}},
		inner(0, 0, 1, ref(2, 0), ref(2, 0)),
		inner(last-1, last-1, 1, ref(2, 1), ref(3, 2), ref(4, 3)),
		inner(0, 0, 31, ref(5, 'a'), ref(4, 'b'), ref(3, 'c'), ref(math.MaxUint32, 0xff)),
		inner(0, 1<<30, 30, ref(9, 'a'), ref(9, 'b')),
		{Kind: api.Inner, Cell: api.Cell{X: 2, Y: 4, Level: 1}, Kids: []api.Ref{ref(7, 7), ref(8, 8)}, Rows: []api.Row{}},
	}
}

// changed is a page with something done to it.
func changed(p api.Page, change func(p *api.Page)) api.Page {
	p.Rows, p.Kids = slices.Clone(p.Rows), slices.Clone(p.Kids)
	change(&p)
	return p
}

// wrongLeaves are pages of that kind, each with one thing wrong.
func wrongLeaves() []api.Page {
	p := api.Page{Kind: api.Leaf, Rows: []api.Row{{Id: 1, X: 2, Y: 3, Val: "a"}, {Id: 4, X: 5, Y: 6}}, Next: ref(7, 't')}
	five := []api.Row{{Id: 1}, {Id: 2}, {Id: 3}, {Id: 4}, {Id: 5}}
	return []api.Page{
		changed(p, func(p *api.Page) { p.Rows = five }),
		changed(p, func(p *api.Page) { p.Rows = make([]api.Row, 256) }),
		changed(p, func(p *api.Page) { p.Rows[1].Id = 1 }),
		changed(p, func(p *api.Page) { p.Rows[1].Id = 0 }),
		changed(p, func(p *api.Page) { p.Rows[0].X = api.MaxPlace }),
		changed(p, func(p *api.Page) { p.Rows[1].Y = math.MaxUint32 }),
		changed(p, func(p *api.Page) { p.Rows[0].Val = strings.Repeat("a", api.MaxVal+1) }),
		changed(p, func(p *api.Page) { p.Rows[1].Val = strings.Repeat("a", 256) }),
		changed(p, func(p *api.Page) { p.Next.Page = 0 }),
		changed(p, func(p *api.Page) { p.Next.Page = 1 }),
		changed(p, func(p *api.Page) { p.Next.Tag = "" }),
		changed(p, func(p *api.Page) { p.Next.Tag = p.Next.Tag[1:] }),
		changed(p, func(p *api.Page) { p.Next.Tag += "t" }),
		changed(p, func(p *api.Page) { p.Next = api.Ref{Tag: nought(api.TagSize)} }),
		changed(p, func(p *api.Page) { p.Next = api.Ref{Tag: "t"} }),
		changed(p, func(p *api.Page) { p.Next = api.Ref{Page: 1} }),
		changed(p, func(p *api.Page) { p.Cell.X = 1 }),
		changed(p, func(p *api.Page) { p.Cell.Y = 1 }),
		changed(p, func(p *api.Page) { p.Cell.Level = 1 }),
		changed(p, func(p *api.Page) { p.Cell.Level = -1 }),
		changed(p, func(p *api.Page) { p.Kids = []api.Ref{{}} }),
		changed(p, func(p *api.Page) { p.Kids = []api.Ref{ref(2, 'a'), ref(3, 'b')} }),
		changed(p, func(p *api.Page) { p.Kind = api.Inner }),
	}
}

// wrongInners are pages of that kind, each with one thing wrong.
func wrongInners() []api.Page {
	p := inner(8, 16, 3, ref(7, 't'), ref(8, 'u'), ref(9, 'v'))
	return []api.Page{
		changed(p, func(p *api.Page) { p.Kids = nil }),
		changed(p, func(p *api.Page) { p.Kids = p.Kids[:1] }),
		changed(p, func(p *api.Page) { p.Kids = append(p.Kids, p.Kids[:2]...) }),
		changed(p, func(p *api.Page) { p.Kids = slices.Repeat(p.Kids[:1], 258) }),
		changed(p, func(p *api.Page) { p.Kids[0].Page = 1 }),
		changed(p, func(p *api.Page) { p.Kids[2].Page = 0 }),
		changed(p, func(p *api.Page) { p.Kids[1].Tag = "" }),
		changed(p, func(p *api.Page) { p.Kids[2].Tag += "t" }),
		changed(p, func(p *api.Page) { p.Kids[0].Tag = p.Kids[0].Tag[1:] }),
		changed(p, func(p *api.Page) { p.Kids[2] = api.Ref{} }),
		changed(p, func(p *api.Page) { p.Cell.Level = 0 }),
		changed(p, func(p *api.Page) { p.Cell.Level = -1 }),
		changed(p, func(p *api.Page) { p.Cell.Level = 4 }),
		changed(p, func(p *api.Page) { p.Cell = api.Cell{Level: 32} }),
		changed(p, func(p *api.Page) { p.Cell.Level += 256 }),
		changed(p, func(p *api.Page) { p.Cell.Level = math.MinInt }),
		changed(p, func(p *api.Page) { p.Cell.Level = math.MaxInt }),
		changed(p, func(p *api.Page) { p.Cell.X++ }),
		changed(p, func(p *api.Page) { p.Cell.Y += 4 }),
		changed(p, func(p *api.Page) { p.Cell.X = api.MaxPlace }),
		changed(p, func(p *api.Page) { p.Cell.Y = api.MaxPlace }),
		changed(p, func(p *api.Page) { p.Rows = []api.Row{{}} }),
		changed(p, func(p *api.Page) { p.Rows = []api.Row{{Id: 1, X: 9, Y: 17}} }),
		changed(p, func(p *api.Page) { p.Next = ref(2, 'n') }),
		changed(p, func(p *api.Page) { p.Next.Page = 1 }),
		changed(p, func(p *api.Page) { p.Next.Tag = "n" }),
		changed(p, func(p *api.Page) { p.Kind = api.Leaf }),
	}
}

// wrongKinds are pages of kinds that there are not.
func wrongKinds() []api.Page {
	var out []api.Page
	for _, kind := range []int{0, -1, 3, 256 + api.Leaf, 256 + api.Inner, math.MinInt, math.MaxInt} {
		out = append(out, api.Page{Kind: kind}, api.Page{Kind: kind, Rows: []api.Row{{Id: 1}}},
			api.Page{Kind: kind, Cell: api.Cell{Level: 1}, Kids: []api.Ref{ref(2, 'a'), ref(3, 'b')}})
	}
	return out
}

// wrongPages are all of them.
func wrongPages() []api.Page {
	return slices.Concat(wrongLeaves(), wrongInners(), wrongKinds())
}

// TestRightRef (P10.1): a page from 2 on, and a tag of 32 bytes; none is not right.
func TestRightRef(t *testing.T) {
	for _, c := range []struct {
		r    api.Ref
		want bool
	}{
		{api.Ref{}, false},
		{ref(2, 0), true},
		{ref(2, 'a'), true},
		{ref(7, 0xff), true},
		{ref(math.MaxUint32, 'a'), true},
		{ref(0, 'a'), false},
		{ref(0, 0), false},
		{ref(1, 'a'), false},
		{api.Ref{Page: 2}, false},
		{api.Ref{Page: 2, Tag: tag('a')[1:]}, false},
		{api.Ref{Page: 2, Tag: tag('a') + "a"}, false},
		{api.Ref{Page: 2, Tag: tag('a') + tag('a')}, false},
	} {
		if got := RightRef(c.r); got != c.want {
			t.Errorf("RightRef of %d, %d bytes: %v", c.r.Page, len(c.r.Tag), got)
		}
	}
}

// TestRight (P10.1): pages at the edges, and pages by chance.
func TestRight(t *testing.T) {
	for i, p := range edges() {
		if !Right(p) {
			t.Errorf("edge %d: %+v is not right", i, p)
		}
	}
	pages(1, func(_ *rand.Rand, p api.Page) {
		if !Right(p) {
			t.Errorf("%+v is not right", p)
		}
	})
}

// TestWrong (P10.1, R1, R2): what is no page has no bytes.
func TestWrong(t *testing.T) {
	for i, p := range wrongPages() {
		if Right(p) {
			t.Errorf("%d: %+v is right", i, p)
		}
		if s, e := Encode(p); e != api.ErrBytes || s != "" {
			t.Errorf("%d: Encode of %+v: %x %d", i, p, s, e)
		}
	}
}

// TestExamples (P10.1): the chapter's example, and an inner page's bytes written out.
func TestExamples(t *testing.T) {
	for _, c := range []struct {
		p    api.Page
		want string
	}{
		{leaf(api.Row{Id: 1, X: 2, Y: 3, Val: "a"}), "\x01\x01" + nought(36) + "\x01\x00\x00\x00\x00\x00\x00\x00\x02\x00\x00\x00\x03\x00\x00\x00\x01a"},
		{leaf(), "\x01\x00" + nought(36)},
		{api.Page{Kind: api.Leaf, Next: ref(0x04030201, 't')}, "\x01\x00\x01\x02\x03\x04" + tag('t')},
		{leaf(api.Row{Id: 0x0807060504030201, X: 0x0c0b0a09, Y: 0x100f0e0d}, api.Row{Id: math.MaxUint64, Val: "xyz"}),
			"\x01\x02" + nought(36) + "\x01\x02\x03\x04\x05\x06\x07\x08\x09\x0a\x0b\x0c\x0d\x0e\x0f\x10\x00" +
				"\xff\xff\xff\xff\xff\xff\xff\xff" + nought(8) + "\x03xyz"},
		{inner(0x0c0b0a00, 0x100f0e00, 9, ref(7, 't'), ref(0x7fffffff, 'u')),
			"\x02\x02\x09\x00\x0a\x0b\x0c\x00\x0e\x0f\x10\x07\x00\x00\x00" + tag('t') + "\xff\xff\xff\x7f" + tag('u')},
	} {
		if s, e := Encode(c.p); e != api.OK || s != c.want {
			t.Errorf("Encode of %+v: %x %d", c.p, s, e)
		}
		if p, e := Decode(c.want); e != api.OK || !same(p, c.p) {
			t.Errorf("Decode of %x: %+v %d", c.want, p, e)
		}
	}
}

// thereAndBack tells whether a right page has the bytes that the chapter says, at most 198, and is read from them again.
func thereAndBack(t *testing.T, p api.Page) {
	t.Helper()
	s, e := Encode(p)
	if e != api.OK || s != said(p) || len(s) > api.Content {
		t.Errorf("Encode of %+v: %x %d", p, s, e)
	}
	if q, e := Decode(s); e != api.OK || !same(p, q) {
		t.Errorf("Decode of %x: %+v %d", s, q, e)
	}
}

// TestThereAndBack (P10.1, P10.2): pages at the edges and by chance.
func TestThereAndBack(t *testing.T) {
	for _, p := range edges() {
		thereAndBack(t, p)
	}
	pages(2, func(_ *rand.Rand, p api.Page) { thereAndBack(t, p) })
}

// TestGreatest (P10.2): the least and the greatest pages of both kinds.
func TestGreatest(t *testing.T) {
	full := api.Page{Kind: api.Leaf, Next: ref(2, 1)}
	for i := range api.Bucket {
		full.Rows = append(full.Rows, api.Row{Id: uint64(i), Val: strings.Repeat("v", api.MaxVal)})
	}
	for _, c := range []struct {
		p    api.Page
		want int
	}{
		{leaf(), 38},
		{full, 170},
		{inner(0, 0, 1, ref(2, 0), ref(2, 0)), 83},
		{inner(0, 0, 31, ref(2, 0), ref(2, 1), ref(2, 2), ref(2, 3)), 155},
	} {
		if s, e := Encode(c.p); e != api.OK || len(s) != c.want || len(s) > api.Content {
			t.Errorf("%+v has %d bytes: %d", c.p, len(s), e)
		}
	}
}

// refused tells whether s are no page's bytes.
func refused(t *testing.T, s string) {
	t.Helper()
	if p, e := Decode(s); e != api.ErrBytes || !reflect.DeepEqual(p, api.Page{}) {
		t.Errorf("Decode of %x: %+v %d", s, p, e)
	}
}

// TestDecodeWrong (P10.1, R2): bytes that say a page which is not right, or no page at all.
func TestDecodeWrong(t *testing.T) {
	row := func(id byte) string { return string([]byte{id}) + nought(15) + "\x00" }
	kid := "\x07\x00\x00\x00" + tag('t')
	bare := "\x01\x00" + nought(36)
	for _, s := range []string{
		"", "\x00", "\x01", "\x02", "\x03", "\xff", nought(38), "\x00" + bare[1:], "\x03" + bare[1:], "\x81" + bare[1:],
		"\x01\x01" + nought(36),
		"\x01\x00" + nought(36) + row(1),
		"\x01\x05" + nought(36) + row(1) + row(2) + row(3) + row(4) + row(5),
		"\x01\xff" + nought(36) + row(1),
		"\x01\xff" + nought(36) + strings.Repeat(row(1), 255),
		"\x01\x02" + nought(36) + row(1) + row(1),
		"\x01\x02" + nought(36) + row(2) + row(1),
		"\x01\x01" + nought(36) + nought(8) + "\x00\x00\x00\x80" + nought(4) + "\x00",
		"\x01\x01" + nought(36) + nought(8) + nought(4) + "\x00\x00\x00\x80" + "\x00",
		"\x01\x01" + nought(36) + nought(16) + "\x11" + strings.Repeat("v", 17),
		"\x01\x01" + nought(36) + nought(16) + "\xff" + strings.Repeat("v", 255),
		"\x01\x01" + nought(36) + nought(16) + "\x02v",
		"\x01\x00\x01\x00\x00\x00" + tag('t'),
		"\x01\x00\x00\x00\x00\x00" + tag('t'),
		"\x01\x00\x01\x00\x00\x00" + nought(32),
		"\x01\x00" + nought(35) + "\x01",
		"\x01\x00" + nought(4) + "\x01" + nought(31),
		"\x02\x00\x01" + nought(8),
		"\x02\x01\x01" + nought(8) + kid,
		"\x02\x05\x01" + nought(8) + strings.Repeat(kid, 5),
		"\x02\xff\x01" + nought(8) + strings.Repeat(kid, 255),
		"\x02\x02\x00" + nought(8) + kid + kid,
		"\x02\x02\x20" + nought(8) + kid + kid,
		"\x02\x02\xff" + nought(8) + kid + kid,
		"\x02\x02\x01\x01" + nought(7) + kid + kid,
		"\x02\x02\x01" + nought(4) + "\x01" + nought(3) + kid + kid,
		"\x02\x02\x01\x00\x00\x00\x80" + nought(4) + kid + kid,
		"\x02\x02\x01" + nought(4) + "\x00\x00\x00\x80" + kid + kid,
		"\x02\x02\x01" + nought(8) + kid + nought(36),
		"\x02\x02\x01" + nought(8) + nought(36) + kid,
		"\x02\x02\x01" + nought(8) + kid + "\x01\x00\x00\x00" + tag('t'),
		"\x02\x02\x01" + nought(8) + kid,
		"\x02\x02\x01" + nought(8) + kid + kid + kid,
		strings.Repeat("\x01", 1<<20), strings.Repeat("\x02", 1<<20),
	} {
		refused(t, s)
	}
}

// TestCutOrLonger (P10.1, P10.2): a page's bytes are no others', neither cut short anywhere nor with more behind them.
func TestCutOrLonger(t *testing.T) {
	for _, p := range edges() {
		s := said(p)
		for i := range len(s) {
			refused(t, s[:i])
		}
		for c := range 256 {
			refused(t, s+string([]byte{byte(c)}))
		}
		refused(t, s+s)
		refused(t, s+nought(api.Content-len(s)))
	}
}

// TestOneToOne (P10.2): whatever bytes are read as a page are those that it has, and others are refused.
func TestOneToOne(t *testing.T) {
	whole := func(s string) bool {
		p, e := Decode(s)
		if e == api.ErrBytes {
			return false
		}
		if again, back := Encode(p); e != api.OK || back != api.OK || again != s || !Right(p) {
			t.Errorf("Decode of %x: %+v %d, and back %x %d", s, p, e, again, back)
		}
		return true
	}
	for _, p := range edges() {
		s := said(p)
		for i := range len(s) {
			for c := range 256 {
				whole(s[:i] + string([]byte{byte(c)}) + s[i+1:])
			}
		}
	}
	read := 0
	pages(3, func(r *rand.Rand, p api.Page) {
		b := []byte(said(p))
		for range 1 + r.Intn(3) {
			b[r.Intn(len(b))] = byte(r.Intn(256) >> r.Intn(8))
		}
		if whole(string(b)) {
			read++
		}
		whole(anyText(r, r.Intn(api.Content+2)))
	})
	if read == 0 {
		t.Error("no changed bytes were read")
	}
}

// TestGivenStays (R3): what is handed in is not written into, nor the room behind it; nil and empty lists are one.
func TestGivenStays(t *testing.T) {
	room := []api.Row{{Id: 1, Val: "a"}, {Id: 2, Val: "b"}, {Id: 3, Val: "c"}, {Id: 4, Val: "d"}}
	kids := []api.Ref{ref(2, 'a'), ref(3, 'b'), ref(4, 'c'), ref(5, 'd')}
	rowsAhead, kidsAhead := slices.Clone(room), slices.Clone(kids)
	for _, p := range []api.Page{leaf(room[:2]...), inner(0, 0, 4, kids[:3]...), leaf(room[1:3:3]...)} {
		if s, e := Encode(p); e != api.OK || s != said(p) || !Right(p) {
			t.Errorf("Encode of %+v: %x %d", p, s, e)
		}
	}
	if !slices.Equal(room, rowsAhead) || !slices.Equal(kids, kidsAhead) {
		t.Error("what was handed in was written into")
	}
	one, _ := Encode(api.Page{Kind: api.Leaf})
	if s, e := Encode(api.Page{Kind: api.Leaf, Rows: []api.Row{}, Kids: []api.Ref{}}); e != api.OK || s != one {
		t.Errorf("empty lists: %x %d", s, e)
	}
}

// TestAnswersNew (R3, R4): what is answered is new each time: writing into it changes no other answer.
func TestAnswersNew(t *testing.T) {
	for _, p := range edges() {
		s := said(p)
		a, _ := Decode(s)
		b, _ := Decode(s)
		for _, l := range [][]api.Row{a.Rows, a.Rows[:cap(a.Rows)]} {
			for i := range l {
				l[i] = api.Row{Id: 99, Val: "other"}
			}
		}
		for _, l := range [][]api.Ref{a.Kids, a.Kids[:cap(a.Kids)]} {
			for i := range l {
				l[i] = ref(99, 'z')
			}
		}
		if c, e := Decode(s); e != api.OK || !same(b, p) || !same(c, p) {
			t.Errorf("behind a change: %+v, %+v %d", b, c, e)
		}
	}
}
