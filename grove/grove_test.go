package grove

import (
	"cmp"
	"fmt"
	"math"
	"math/rand"
	"slices"
	"strings"
	"testing"

	"sphragis/api"
	"sphragis/device"
	"sphragis/plain"
	"sphragis/rows"
	"sphragis/vault"
)

const last = api.MaxPlace - 1 // the plane's greatest place

var (
	one    = api.Key{Gen: 1, Secret: strings.Repeat("a", api.KeySize)}
	two    = api.Key{Gen: 2, Secret: strings.Repeat("b", api.KeySize)}
	anyTag = strings.Repeat("g", api.TagSize)
)

// start is a vault on a new device, with two keys, of the generation 1.
func start(t *testing.T, blocks int) (*device.Device, *vault.Vault) {
	t.Helper()
	d, e := device.New(blocks)
	if e != api.OK {
		t.Fatal(e)
	}
	return d, again(t, d, one, two)
}

// again is a vault on a device, with these keys.
func again(t *testing.T, d *device.Device, ring ...api.Key) *vault.Vault {
	t.Helper()
	v, e := vault.New(d, ring, ring[0].Gen, 1)
	if e != api.OK {
		t.Fatal(e)
	}
	return v
}

// pile are rows at one point, from an Id on.
func pile(id uint64, count int, x, y uint32) []api.Row {
	var out []api.Row
	for i := range count {
		out = append(out, api.Row{Id: id + uint64(i), X: x, Y: y})
	}
	return out
}

// joined are lists behind each other.
func joined(lists ...[]api.Row) []api.Row { return slices.Concat(lists...) }

// sixRows are those of the document's example: five at one point, one elsewhere.
func sixRows() []api.Row { return joined(pile(1, 5, 0, 0), pile(6, 1, 8, 0)) }

// spread are count rows, none at another's point.
func spread(count int) []api.Row {
	var out []api.Row
	for i := range count {
		out = append(out, api.Row{Id: uint64(i), X: uint32(i%40) * 1000, Y: uint32(i/40) * 1000, Val: "v"})
	}
	return out
}

// place is one of the plane: among few ones, near its edges, near great lines, or anywhere.
func place(r *rand.Rand, kind int) uint32 {
	switch kind {
	case 0:
		return uint32(r.Intn(3))
	case 1:
		return uint32(r.Intn(40))
	case 2:
		return last - uint32(r.Intn(8))
	case 3:
		return uint32(1)<<r.Intn(31) - uint32(r.Intn(2))
	}
	return uint32(r.Intn(api.MaxPlace))
}

// someRows are right ones, by chance.
func someRows(r *rand.Rand, most int) []api.Row {
	var out []api.Row
	id, kind := uint64(r.Intn(3)), r.Intn(6)
	for range r.Intn(most + 1) {
		k := kind
		if k == 5 {
			k = r.Intn(5)
		}
		out = append(out, api.Row{Id: id, X: place(r, k), Y: place(r, k), Val: strings.Repeat("v", r.Intn(17))})
		id += 1 + uint64(r.Intn(5))
	}
	return out
}

// shape is a page that has no refs yet: to which of the pages ahead of it they go.
type shape struct {
	page api.Page
	refs []int
}

// shapes are the pages of right rows, by the words of the document alone: out with those of l behind them.
func shapes(out []shape, l []api.Row) []shape {
	c, single := leastCell(l)
	if len(l) > 4 && !single {
		half := uint32(1) << (c.Level - 1)
		var parts [4][]api.Row
		for _, r := range l {
			n := 0
			if r.X-c.X >= half {
				n++
			}
			if r.Y-c.Y >= half {
				n += 2
			}
			parts[n] = append(parts[n], r)
		}
		s := shape{page: api.Page{Kind: api.Inner, Cell: c}}
		for _, part := range parts {
			if len(part) > 0 {
				out = shapes(out, part)
				s.refs = append(s.refs, len(out)-1)
			}
		}
		return append(out, s)
	}
	var pieces [][]api.Row
	for len(l) > 4 {
		pieces = append(pieces, l[:4])
		l = l[4:]
	}
	pieces = append(pieces, l)
	slices.Reverse(pieces)
	for i, piece := range pieces {
		s := shape{page: api.Page{Kind: api.Leaf, Rows: piece}}
		if i > 0 {
			s.refs = []int{len(out) - 1}
		}
		out = append(out, s)
	}
	return out
}

// leastCell is the least one that has all points, and whether they are one point.
func leastCell(l []api.Row) (api.Cell, bool) {
	if len(l) == 0 {
		return api.Cell{}, true
	}
	for level := 0; ; level++ {
		c := api.Cell{X: l[0].X >> level << level, Y: l[0].Y >> level << level, Level: level}
		outside := func(r api.Row) bool { return r.X>>level<<level != c.X || r.Y>>level<<level != c.Y }
		if !slices.ContainsFunc(l, outside) {
			return c, level == 0
		}
	}
}

// text is a shape's, where the pages ahead are at those refs.
func text(t *testing.T, s shape, ahead []api.Ref) string {
	t.Helper()
	p := s.page
	for _, i := range s.refs {
		if p.Kind == api.Leaf {
			p.Next = ahead[i]
		} else {
			p.Kids = append(slices.Clip(p.Kids), ahead[i])
		}
	}
	bytes, e := rows.Encode(p)
	if e != api.OK {
		t.Fatalf("no page: %v", p)
	}
	return bytes
}

// refsOf are those of pages.
func refsOf(l []api.Saved) []api.Ref {
	var out []api.Ref
	for _, s := range l {
		out = append(out, s.Ref)
	}
	return out
}

// textsOf are those of pages.
func textsOf(l []api.Saved) []string {
	var out []string
	for _, s := range l {
		out = append(out, s.Text)
	}
	return out
}

// check tells a fault, unless pages are those of right rows, and stand where they say.
func check(t *testing.T, v *vault.Vault, l []api.Row, pages []api.Saved) {
	t.Helper()
	want := shapes(nil, l)
	if len(pages) != len(want) {
		t.Fatalf("%d rows: %d pages, not %d", len(l), len(pages), len(want))
	}
	for i, s := range pages {
		if s.Text != text(t, want[i], refsOf(pages)) {
			t.Fatalf("%d rows: page %d is not %v", len(l), i, want[i])
		}
		if got, e := v.Read(s.Ref); got != s.Text || e != api.OK {
			t.Fatalf("%d rows: page %d is not where it is told: %d", len(l), i, e)
		}
	}
}

func save(t *testing.T, v *vault.Vault, l []api.Row, had []api.Saved) []api.Saved {
	t.Helper()
	s, e := Save(v, l, had)
	if e != api.OK {
		t.Fatalf("Save of %d rows: %d", len(l), e)
	}
	return s
}

// loads tells a fault, unless these rows and pages are loaded.
func loads(t *testing.T, v *vault.Vault, l []api.Row, pages []api.Saved) {
	t.Helper()
	got, read, e := Load(v, pages[len(pages)-1].Ref)
	if e != api.OK || !slices.Equal(got, l) || !slices.Equal(read, pages) {
		t.Fatalf("Load of %d rows: %d rows, %d pages, %d", len(l), len(got), len(read), e)
	}
}

// refused tells a fault, unless Load answers that error, and nothing beside it.
func refused(t *testing.T, what any, v *vault.Vault, r api.Ref, want api.Errno) {
	t.Helper()
	l, pages, e := Load(v, r)
	if e != want || len(l) != 0 || len(pages) != 0 {
		t.Errorf("%v: %d rows, %d pages, %d instead of %d", what, len(l), len(pages), e, want)
	}
}

// write puts a text that may be no page's.
func write(t *testing.T, v *vault.Vault, s string) api.Ref {
	t.Helper()
	r, e := v.Write(s)
	if e != api.OK {
		t.Fatal(e)
	}
	return r
}

// put writes a right page.
func put(t *testing.T, v *vault.Vault, p api.Page) api.Ref {
	t.Helper()
	s, e := rows.Encode(p)
	if e != api.OK {
		t.Fatalf("no page: %v", p)
	}
	return write(t, v, s)
}

// leaf is a page of rows.
func leaf(next api.Ref, l ...api.Row) api.Page {
	return api.Page{Kind: api.Leaf, Rows: l, Next: next}
}

// inner is a page of kids.
func inner(x, y uint32, level int, kids ...api.Ref) api.Page {
	return api.Page{Kind: api.Inner, Cell: api.Cell{X: x, Y: y, Level: level}, Kids: kids}
}

// TestExamples (P14.1): how many pages rows have, on a new vault: at the least places, in order.
func TestExamples(t *testing.T) {
	for name, c := range map[string]struct {
		rows  []api.Row
		pages int
	}{
		"none":                   {nil, 1},
		"empty":                  {[]api.Row{}, 1},
		"one":                    {pile(7, 1, 3, 4), 1},
		"two":                    {joined(pile(1, 1, 1, 1), pile(2, 1, 2, 2)), 1},
		"four apart":             {spread(4), 1},
		"four at one":            {pile(1, 4, last, last), 1},
		"five at one":            {pile(1, 5, last, 0), 2},
		"eight at one":           {pile(1, 8, 9, 9), 2},
		"nine at one":            {pile(1, 9, 9, 9), 3},
		"five, one elsewhere":    {sixRows(), 4},
		"four, one elsewhere":    {joined(pile(1, 4, 0, 0), pile(5, 1, last, last)), 3},
		"one in each, one twice": {joined(pile(1, 2, 0, 0), pile(3, 1, last, 0), pile(4, 1, 0, last), pile(5, 1, last, last)), 5},
		"a thousand at one":      {pile(0, api.MaxRows, 5, 6), 250},
		"greatest Ids":           {pile(math.MaxUint64-4, 5, 0, 0), 2},
	} {
		d, v := start(t, 300)
		s := save(t, v, c.rows, nil)
		if len(s) != c.pages || v.Free() != 298-c.pages || v.Seals() != uint64(c.pages) {
			t.Error(name, len(s), v.Free(), v.Seals())
		}
		check(t, v, c.rows, s)
		image := d.Image()
		for i, p := range s {
			at := image[2+i]
			if p.Ref.Page != uint32(2+i) || p.Ref.Tag != at[len(at)-api.TagSize:] {
				t.Error(name, i, p.Ref)
			}
		}
		loads(t, v, c.rows, s)
	}
}

// TestExampleText (P14.1): the pages of the document's example, byte by byte.
func TestExampleText(t *testing.T) {
	_, v := start(t, 20)
	s := save(t, v, sixRows(), nil)
	row := func(id, x byte) string { return string([]byte{id, 0, 0, 0, 0, 0, 0, 0, x, 0, 0, 0, 0, 0, 0, 0, 0}) }
	ref := func(n byte) string { return string([]byte{n, 0, 0, 0}) + s[n-2].Ref.Tag }
	want := []string{
		"\x01\x01" + strings.Repeat("\x00", 36) + row(5, 0),
		"\x01\x04" + ref(2) + row(1, 0) + row(2, 0) + row(3, 0) + row(4, 0),
		"\x01\x01" + strings.Repeat("\x00", 36) + row(6, 8),
		"\x02\x02\x04" + strings.Repeat("\x00", 8) + ref(3) + ref(4),
	}
	if !slices.Equal(textsOf(s), want) {
		t.Errorf("%q", textsOf(s))
	}
	empty := save(t, v, nil, nil)
	if empty[0].Text != "\x01\x00"+strings.Repeat("\x00", 36) {
		t.Errorf("%q", empty[0].Text)
	}
}

// TestSaveMany (P14.1, P14.2, P14.3): rows by chance, and as many as there may be, each on a vault of which some
// blocks are taken.
func TestSaveMany(t *testing.T) {
	r := rand.New(rand.NewSource(14))
	lists := [][]api.Row{spread(api.MaxRows)}
	for i := range 120 {
		lists = append(lists, someRows(r, 4+i))
	}
	for _, l := range lists {
		_, v := start(t, 2400)
		for range r.Intn(20) {
			v.Take(uint32(2 + r.Intn(40)))
		}
		free := v.Free()
		s := save(t, v, l, nil)
		check(t, v, l, s)
		if v.Free() != free-len(s) || v.Seals() != uint64(len(s)) || len(s) > api.MaxPages {
			t.Fatal(v.Free(), v.Seals())
		}
		loads(t, v, l, s)
	}
}

// TestLoadParts (P14.2): each page is the last one of a tree of its own: a kid's, or the rows behind the first four.
func TestLoadParts(t *testing.T) {
	r := rand.New(rand.NewSource(41))
	for range 60 {
		_, v := start(t, 400)
		l := joined(someRows(r, 60), pile(1000, r.Intn(30), 2, 1))
		s := save(t, v, l, nil)
		want := shapes(nil, l)
		for i, p := range s {
			got, pages, e := Load(v, p.Ref)
			if e != api.OK || pages[len(pages)-1] != p {
				t.Fatal(i, e)
			}
			if !slices.Equal(pages, s[i+1-len(pages):i+1]) {
				t.Fatal(i, "other pages")
			}
			var all []api.Row
			for _, below := range want[i+1-len(pages) : i+1] {
				all = append(all, below.page.Rows...)
			}
			slices.SortFunc(all, func(a, b api.Row) int { return cmp.Compare(a.Id, b.Id) })
			if !slices.Equal(got, all) {
				t.Fatal(i, "other rows")
			}
		}
	}
}

// TestLoadElsewhere (P14.3, R4): what was saved is loaded by any vault of that device that has the key, whatever it
// seals with, whichever blocks it holds for taken; loading changes nothing.
func TestLoadElsewhere(t *testing.T) {
	d, v := start(t, 60)
	l := joined(spread(12), pile(100, 9, 7, 7))
	s := save(t, v, l, nil)
	other := again(t, d, one)
	turned := again(t, d, one, two)
	if e := turned.Turn([]api.Key{one, two}, 2); e != api.OK {
		t.Fatal(e)
	}
	image := d.Image()
	for _, w := range []*vault.Vault{v, other, turned} {
		free, seals := w.Free(), w.Seals()
		loads(t, w, l, s)
		if w.Free() != free || w.Seals() != seals || !slices.Equal(d.Image(), image) {
			t.Error("something has changed")
		}
	}
	refused(t, "without the key", again(t, d, two), s[len(s)-1].Ref, api.ErrKey)
	if e := d.Flush(); e != api.OK {
		t.Fatal(e)
	}
	d.Cut(0)
	d.Flush()
	refused(t, "without power", v, s[len(s)-1].Ref, api.ErrPower)
	d.Wake(nil)
	loads(t, v, l, s)
}

// TestNone (P14.1, P14.2, R4): a vault that is none comes ahead of wrong rows and refs.
func TestNone(t *testing.T) {
	wrong := []api.Row{{X: api.MaxPlace}}
	for _, v := range []*vault.Vault{nil, {}} {
		for _, l := range [][]api.Row{nil, sixRows(), wrong} {
			had := []api.Saved{{Text: "\x01\x00" + strings.Repeat("\x00", 36), Ref: api.Ref{Page: 2, Tag: anyTag}}}
			if s, e := Save(v, l, had); len(s) != 0 || e != api.ErrNil {
				t.Error(s, e)
			}
		}
		for _, r := range []api.Ref{{}, {Page: 2, Tag: anyTag}} {
			refused(t, r, v, r, api.ErrNil)
		}
	}
}

// TestSaveWrong (P14.1, R2): rows that are not right come ahead of what the vault would say, and change nothing.
func TestSaveWrong(t *testing.T) {
	for name, l := range map[string][]api.Row{
		"too many":      pile(0, api.MaxRows+1, 0, 0),
		"twice":         {{Id: 1}, {Id: 1, X: 3}},
		"falling":       {{Id: 2}, {Id: 1}},
		"x too great":   {{Id: 1, X: api.MaxPlace}},
		"y too great":   {{Id: 1}, {Id: 2, Y: math.MaxUint32}},
		"val too great": {{Id: 1, Val: strings.Repeat("v", api.MaxVal+1)}},
	} {
		d, v := start(t, 4)
		image := d.Image()
		if s, e := Save(v, l, nil); len(s) != 0 || e != api.ErrRow {
			t.Error(name, s, e)
		}
		if v.Free() != 2 || v.Seals() != 0 || !slices.Equal(d.Image(), image) {
			t.Error(name, "something has changed")
		}
		v.Take(2)
		v.Take(3)
		d.Cut(0)
		if s, e := Save(v, l, nil); len(s) != 0 || e != api.ErrRow {
			t.Error(name, s, e)
		}
	}
}

// TestSaveFull (P14.1): where pages can't all be written, the blocks that were taken are given again, and no others.
func TestSaveFull(t *testing.T) {
	l := joined(pile(1, 9, 0, 0), pile(10, 7, 100, 100))
	count := len(shapes(nil, l))
	for room := range count + 2 {
		_, v := start(t, 40)
		first := save(t, v, sixRows(), nil)
		for p := range uint32(40) {
			if v.Free() > room {
				v.Take(p)
			}
		}
		seals := v.Seals()
		s, e := Save(v, l, nil)
		if room >= count {
			if e != api.OK || v.Free() != room-count {
				t.Error(room, e, v.Free())
			}
			check(t, v, l, s)
			continue
		}
		if len(s) != 0 || e != api.ErrFull || v.Free() != room || v.Seals() != seals+uint64(room) {
			t.Error(room, s, e, v.Free(), v.Seals())
		}
		loads(t, v, sixRows(), first)
		for _, p := range first {
			if v.Take(p.Ref.Page) != api.ErrArg {
				t.Error(room, "given:", p.Ref.Page)
			}
		}
	}
}

// TestSavePower (P14.1): the power ends with each of the writes.
func TestSavePower(t *testing.T) {
	l := joined(pile(1, 9, 0, 0), pile(10, 7, 100, 100))
	count := len(shapes(nil, l))
	for n := range count {
		d, v := start(t, 40)
		d.Cut(n)
		if s, e := Save(v, l, nil); len(s) != 0 || e != api.ErrPower || v.Free() != 38 {
			t.Error(n, s, e, v.Free())
		}
		if s, e := Save(v, l, nil); len(s) != 0 || e != api.ErrPower || v.Free() != 38 {
			t.Error(n, s, e, v.Free())
		}
		d.Wake(nil)
		s := save(t, v, l, nil)
		check(t, v, l, s)
		if s[0].Ref.Page != 2 || v.Free() != 38-count {
			t.Error(n, s[0].Ref.Page, v.Free())
		}
	}
}

// TestSaveHad (P14.1, P14.3): what did not change is not written again, though there is neither room nor power.
func TestSaveHad(t *testing.T) {
	r := rand.New(rand.NewSource(3))
	for range 60 {
		d, v := start(t, 300)
		l := someRows(r, 80)
		s := save(t, v, l, nil)
		had := slices.Clone(s)
		r.Shuffle(len(had), func(i, j int) { had[i], had[j] = had[j], had[i] })
		image, seals := d.Image(), v.Seals()
		for p := range uint32(300) {
			v.Take(p)
		}
		d.Cut(0)
		if got := save(t, v, l, had); !slices.Equal(got, s) {
			t.Fatal("other pages")
		}
		if v.Seals() != seals || v.Free() != 0 || !slices.Equal(d.Image(), image) {
			t.Fatal("something has changed")
		}
	}
}

// TestSaveChanges (P14.1, P14.3): change upon change, only pages whose texts were not had are written.
func TestSaveChanges(t *testing.T) {
	r := rand.New(rand.NewSource(5))
	_, v := start(t, 1000)
	var l []api.Row
	had := save(t, v, l, nil)
	for i := range 400 {
		op := api.Op{Kind: 1 + r.Intn(3), Row: api.Row{Id: uint64(r.Intn(120)), X: place(r, i%5), Y: place(r, i%5)}}
		if op.Kind == api.OPut {
			op.Row.Val = fmt.Sprint(r.Intn(3))
		}
		if op.Kind == api.ODelete {
			op.Row = api.Row{Id: op.Row.Id}
		}
		next, e := plain.Apply(l, op)
		if e != api.OK {
			continue
		}
		seals, free := v.Seals(), v.Free()
		s := save(t, v, next, had)
		check(t, v, next, s)
		anew := 0
		for _, p := range s {
			k := slices.IndexFunc(had, func(h api.Saved) bool { return h.Text == p.Text })
			if k < 0 {
				anew++
			} else if had[k] != p {
				t.Fatal("was had elsewhere")
			}
		}
		if v.Seals() != seals+uint64(anew) || v.Free() != free-anew {
			t.Fatal(anew, v.Seals()-seals)
		}
		loads(t, v, l, had)
		loads(t, v, next, s)
		for _, h := range had {
			if !slices.Contains(s, h) {
				v.Give(h.Ref.Page)
			}
		}
		l, had = next, s
		if v.Free() != 998-len(had) {
			t.Fatal(v.Free())
		}
	}
}

// TestSaveOneLeaf (P14.3): with one row of another value, its page and those above it are written, none else.
func TestSaveOneLeaf(t *testing.T) {
	_, v := start(t, 20)
	l := sixRows()
	s := save(t, v, l, nil)
	l[5].Val = "x"
	n := save(t, v, l, s)
	if n[0] != s[0] || n[1] != s[1] || n[2].Ref.Page != 6 || n[3].Ref.Page != 7 || v.Seals() != 6 {
		t.Error(n, v.Seals())
	}
	loads(t, v, sixRows(), s)
	loads(t, v, l, n)
	// Of rows at one point the pieces ahead of a change refer to those behind it.
	l[0].Val = "y"
	m := save(t, v, l, n)
	if m[0] != s[0] || m[1].Ref.Page != 8 || m[2] != n[2] || m[3].Ref.Page != 9 {
		t.Error(m)
	}
	l[4].Val = "z"
	k := save(t, v, l, m)
	if k[0].Ref.Page != 10 || k[1].Ref.Page != 11 || k[2] != n[2] || k[3].Ref.Page != 12 {
		t.Error(k)
	}
	if back := save(t, v, sixRows(), slices.Concat(k, m, n, s)); !slices.Equal(back, s) || v.Free() != 18-11 {
		t.Error(back, v.Free())
	}
}

// TestSaveFirstHad (P14.1): of those that have a text the first one counts.
func TestSaveFirstHad(t *testing.T) {
	_, v := start(t, 40)
	l := sixRows()
	s := save(t, v, l, nil)
	other := write(t, v, s[2].Text)
	for _, had := range [][]api.Saved{
		{{Text: s[2].Text, Ref: other}, s[2], s[0]},
		{s[0], {Text: s[2].Text, Ref: other}, s[1], s[2], s[2]},
	} {
		n := save(t, v, l, had)
		if n[0] != s[0] || n[2].Ref != other || n[2].Text != s[2].Text || n[3].Text == s[3].Text {
			t.Error(n)
		}
		check(t, v, l, n)
		loads(t, v, l, n)
	}
	if n := save(t, v, l, []api.Saved{s[0], s[1], s[2], {Text: s[2].Text, Ref: other}, s[3]}); !slices.Equal(n, s) {
		t.Error(n)
	}
	// A text that is almost one's is none's.
	seals := v.Seals()
	n := save(t, v, l, []api.Saved{{Text: s[0].Text + "\x00", Ref: other}, {Text: s[0].Text[1:], Ref: other}, {Ref: other}})
	if v.Seals() != seals+4 || n[0].Ref == other {
		t.Error(n)
	}
}

// TestSaveWrongHad (P14.1): a page is where it was had, right or not; one that would refer there can't be written, and
// what was written ahead of it is given again.
func TestSaveWrongHad(t *testing.T) {
	for _, wrong := range []api.Ref{{Page: 1, Tag: anyTag}, {Page: 9}, {Page: 9, Tag: anyTag + "g"}, {Tag: anyTag}} {
		_, v := start(t, 40)
		s := save(t, v, sixRows(), nil)
		free := v.Free()
		for i := range 3 { // the one of four is had wrongly only if what it refers to is had rightly
			had := []api.Saved{{Text: s[i].Text, Ref: wrong}, s[0]}
			if n, e := Save(v, sixRows(), had); len(n) != 0 || e != api.ErrBytes || v.Free() != free {
				t.Error(wrong, i, n, e, v.Free())
			}
		}
		n := save(t, v, sixRows(), append(slices.Clone(s[:3]), api.Saved{Text: s[3].Text, Ref: wrong}))
		if n[3].Ref != wrong || v.Free() != free {
			t.Error(wrong, n)
		}
	}
	_, v := start(t, 40)
	s := save(t, v, pile(1, 5, 0, 0), nil)
	n := save(t, v, pile(1, 5, 0, 0), []api.Saved{{Text: s[0].Text}})
	if n[0] != (api.Saved{Text: s[0].Text}) || n[1].Text[2:38] != strings.Repeat("\x00", 36) || v.Free() != 35 {
		t.Error(n, v.Free())
	}
}

// TestLoadWrongRef (P14.2): the error of reading r's page.
func TestLoadWrongRef(t *testing.T) {
	d, v := start(t, 20)
	r := save(t, v, pile(1, 3, 0, 0), nil)[0].Ref
	for _, c := range []struct {
		ref api.Ref
		e   api.Errno
	}{
		{api.Ref{}, api.ErrArg},
		{api.Ref{Page: 0, Tag: r.Tag}, api.ErrArg},
		{api.Ref{Page: 1, Tag: r.Tag}, api.ErrArg},
		{api.Ref{Page: 2}, api.ErrArg},
		{api.Ref{Page: 2, Tag: r.Tag[1:]}, api.ErrArg},
		{api.Ref{Page: 2, Tag: r.Tag + "g"}, api.ErrArg},
		{api.Ref{Page: 20, Tag: r.Tag}, api.ErrArg},
		{api.Ref{Page: math.MaxUint32, Tag: r.Tag}, api.ErrArg},
		{api.Ref{Page: 2, Tag: anyTag}, api.ErrIntegrity},
		{api.Ref{Page: 3, Tag: r.Tag}, api.ErrIntegrity},
	} {
		refused(t, c.ref, v, c.ref, c.e)
	}
	d.Put(3, d.Image()[2])
	refused(t, "in another's place", v, api.Ref{Page: 3, Tag: r.Tag}, api.ErrIntegrity)
	d.Bad(2, true)
	refused(t, "bad", v, r, api.ErrIO)
}

// readingOrder are the pages of shapes as they are read, from the i-th on.
func readingOrder(l []shape, i int) []int {
	out := []int{i}
	for _, k := range l[i].refs {
		out = append(out, readingOrder(l, k)...)
	}
	return out
}

// TestLoadOrder (P14.2): of several faults the one of the page that is read first is told.
func TestLoadOrder(t *testing.T) {
	r := rand.New(rand.NewSource(8))
	for range 300 {
		d, v := start(t, 200)
		l := joined(someRows(r, 40), pile(1000, r.Intn(14), 1, 1))
		want := shapes(nil, l)
		fault := make([]api.Errno, len(want))
		s := make([]api.Saved, len(want))
		for i, p := range want {
			s[i].Text = text(t, p, refsOf(s))
			gen := uint32(1)
			wrong := r.Intn(len(want)/2 + 6)
			switch wrong {
			case 0: // a key that is missing then
				gen, fault[i] = 2, api.ErrKey
			case 1: // no page's text
				s[i].Text, fault[i] = s[i].Text+"\x00", api.ErrIntegrity
			case 2:
				fault[i] = api.ErrIO
			case 3:
				fault[i] = api.ErrIntegrity
			}
			if fault[i] == api.ErrIntegrity && len(s[i].Text) > api.Content {
				s[i].Text = ""
			}
			v.Turn([]api.Key{one, two}, gen)
			s[i].Ref = write(t, v, s[i].Text)
			switch wrong {
			case 2:
				d.Bad(s[i].Ref.Page, true)
			case 3:
				at := []byte(d.Image()[s[i].Ref.Page])
				at[api.HeadSize+r.Intn(api.Body)] ^= 1 << r.Intn(8)
				d.Put(s[i].Ref.Page, string(at))
			}
		}
		first := api.OK
		for _, i := range readingOrder(want, len(want)-1) {
			first = cmp.Or(first, fault[i])
		}
		w := again(t, d, one)
		if first == api.OK {
			loads(t, w, l, s)
		} else {
			refused(t, fault, w, s[len(s)-1].Ref, first)
		}
	}
}

// TestLoadNoPage (P14.2): a text that is no page's is told where it is read.
func TestLoadNoPage(t *testing.T) {
	for _, s := range []string{"", "\x01", "\x03", "some text", "\x01\x00" + strings.Repeat("\x00", 37), strings.Repeat("\x00", api.Content)} {
		d, v := start(t, 20)
		none := write(t, v, s)
		bad := write(t, v, s)
		right := put(t, v, leaf(api.Ref{}, api.Row{Id: 1}))
		d.Bad(bad.Page, true)
		refused(t, s, v, none, api.ErrIntegrity)
		refused(t, s, v, put(t, v, leaf(none, api.Row{Id: 1})), api.ErrIntegrity)
		refused(t, s, v, put(t, v, leaf(bad, api.Row{Id: 1})), api.ErrIO)
		refused(t, s, v, put(t, v, inner(0, 0, 1, right, none, bad)), api.ErrIntegrity)
		refused(t, s, v, put(t, v, inner(0, 0, 1, right, bad, none)), api.ErrIO)
		refused(t, s, v, put(t, v, inner(0, 0, 1, none, bad)), api.ErrIntegrity)
	}
}

// chain are count pages of no rows, each Next of one more, the first of all none or last: the last one's ref.
func chain(t *testing.T, v *vault.Vault, count int, last api.Ref) api.Ref {
	t.Helper()
	for range count {
		last = put(t, v, leaf(last))
	}
	return last
}

// TestLoadMost (P14.2): 2100 pages are read, and the one behind them is not.
func TestLoadMost(t *testing.T) {
	d, v := start(t, api.MaxBlocks)
	bad := write(t, v, "bad")
	d.Bad(bad.Page, true)
	early := chain(t, v, api.MaxPages-1, bad)
	refused(t, "the bad one is the last one read", v, early, api.ErrIO)
	late := put(t, v, leaf(early))
	refused(t, "the bad one is one too many", v, late, api.ErrIntegrity)
	refused(t, "two too many", v, put(t, v, leaf(late)), api.ErrIntegrity)
	// Kids count as well, each time that one is read.
	below := put(t, v, leaf(api.Ref{}))
	for range 10 { // twice as many and one more each time: 2047 at the end
		below = put(t, v, inner(0, 0, 1, below, below))
	}
	for n, want := range map[int]api.Errno{51: api.ErrIO, 52: api.ErrIntegrity, 53: api.ErrIntegrity} {
		// The page itself, 2047 and n of a chain.
		refused(t, n, v, put(t, v, inner(0, 0, 1, below, chain(t, v, n, bad))), want)
	}
}

// TestLoadOver (P14.2, R1): pages that refer to others again and again are left behind 2100.
func TestLoadOver(t *testing.T) {
	_, v := start(t, 100)
	at := put(t, v, leaf(api.Ref{}, api.Row{Id: 1}))
	for range 60 {
		at = put(t, v, inner(0, 0, 31, at, at, at, at))
	}
	refused(t, "four times four times ..", v, at, api.ErrIntegrity)
}

// TestLoadForged (P14.2): right pages that are not those of right rows.
func TestLoadForged(t *testing.T) {
	_, v := start(t, api.MaxBlocks)
	none := api.Ref{}
	row := func(id uint64, x, y uint32) api.Row { return api.Row{Id: id, X: x, Y: y} }
	put := func(p api.Page) api.Ref { return put(t, v, p) }
	four := func(id uint64, x uint32) []api.Row { return pile(id, 4, x, 0) }
	a, b := put(leaf(none, four(1, 0)...)), put(leaf(none, four(5, 8)...))
	five := put(leaf(put(leaf(none, row(5, 0, 0))), four(1, 0)...))
	empty := put(leaf(none))
	for name, c := range map[string]struct {
		page api.Page
		e    api.Errno
	}{
		"right":                      {inner(0, 0, 4, a, b), api.OK},
		"right, two pieces":          {leaf(put(leaf(none, row(5, 0, 0))), four(1, 0)...), api.OK},
		"right, none":                {leaf(none), api.OK},
		"kids swapped":               {inner(0, 0, 4, b, a), api.ErrIntegrity},
		"a kid twice":                {inner(0, 0, 4, a, a), api.ErrIntegrity},
		"a kid twice, at the end":    {inner(0, 0, 4, a, b, b), api.ErrIntegrity},
		"too great a cell":           {inner(0, 0, 5, a, b), api.ErrIntegrity},
		"too small a cell":           {inner(0, 0, 3, a, b), api.ErrIntegrity},
		"another cell":               {inner(16, 0, 4, a, b), api.ErrIntegrity},
		"few rows with kids":         {inner(0, 0, 4, put(leaf(none, row(1, 0, 0))), put(leaf(none, row(2, 8, 0)))), api.ErrIntegrity},
		"a kid of none":              {inner(0, 0, 4, a, b, empty), api.ErrIntegrity},
		"kids of none":               {inner(0, 0, 4, empty, empty), api.ErrIntegrity},
		"one point, cut":             {inner(0, 0, 4, a, put(leaf(none, row(5, 0, 0)))), api.ErrIntegrity},
		"two points, not cut":        {leaf(b, four(1, 0)...), api.ErrIntegrity},
		"few in two pieces":          {leaf(put(leaf(none, row(3, 0, 0))), row(1, 0, 0), row(2, 0, 0)), api.ErrIntegrity},
		"the first one not full":     {leaf(put(leaf(none, pile(4, 4, 0, 0)...)), pile(1, 3, 0, 0)...), api.ErrIntegrity},
		"pieces swapped":             {leaf(put(leaf(none, pile(1, 4, 0, 0)...)), pile(5, 4, 0, 0)...), api.ErrIntegrity},
		"pieces mixed":               {leaf(put(leaf(none, row(2, 0, 0))), row(1, 0, 0), row(3, 0, 0), row(4, 0, 0), row(5, 0, 0)), api.ErrIntegrity},
		"a piece of none behind":     {leaf(empty, four(1, 0)...), api.ErrIntegrity},
		"none, then four":            {leaf(a), api.ErrIntegrity},
		"an Id twice":                {inner(0, 0, 4, a, put(leaf(none, pile(4, 4, 8, 0)...))), api.ErrIntegrity},
		"an Id twice at one point":   {leaf(put(leaf(none, row(4, 0, 0))), four(1, 0)...), api.ErrIntegrity},
		"a Next that is inner":       {leaf(put(inner(0, 0, 4, a, b)), pile(9, 4, 0, 0)...), api.ErrIntegrity},
		"right, a kid of two pieces": {inner(0, 0, 4, five, put(leaf(none, row(6, 8, 0)))), api.OK},
		"rows in the wrong kid":      {inner(0, 0, 4, put(leaf(none, row(1, 0, 0), row(5, 8, 0))), put(leaf(none, pile(2, 3, 8, 0)...))), api.ErrIntegrity},
		"inner below inner, uncut":   {inner(0, 0, 4, put(inner(0, 0, 1, put(leaf(none, row(1, 0, 0))), put(leaf(none, row(2, 1, 0))))), b), api.ErrIntegrity},
		"right, inner below inner":   {inner(0, 0, 4, a, put(inner(8, 0, 1, put(leaf(none, four(5, 8)...)), put(leaf(none, row(9, 9, 0)))))), api.OK},
	} {
		r := put(c.page)
		if c.e != api.OK {
			refused(t, name, v, r, c.e)
			continue
		}
		l, pages, e := Load(v, r)
		if e != api.OK || pages[len(pages)-1].Ref != r {
			t.Fatal(name, e)
		}
		check(t, v, l, pages)
	}
}

// TestLoadThousand (P14.2): 1000 rows are right, one more are not, though each page is.
func TestLoadThousand(t *testing.T) {
	_, v := start(t, 800)
	for count, want := range map[int]api.Errno{api.MaxRows: api.OK, api.MaxRows + 1: api.ErrIntegrity, api.MaxRows + 4: api.ErrIntegrity} {
		var at []api.Ref
		for _, s := range shapes(nil, pile(1, count, 3, 3)) {
			at = append(at, write(t, v, text(t, s, at)))
		}
		l, pages, e := Load(v, at[len(at)-1])
		if e != want || want == api.OK && (len(l) != count || len(pages) != 250) || want != api.OK && (len(l) != 0 || len(pages) != 0) {
			t.Error(count, len(l), len(pages), e)
		}
	}
}

// forge changes one of the shapes, by chance.
func forge(r *rand.Rand, l []shape) {
	s := &l[r.Intn(len(l))]
	switch {
	case s.page.Kind == api.Inner && r.Intn(3) == 0:
		i, j := r.Intn(len(s.refs)), r.Intn(len(s.refs))
		s.refs[i], s.refs[j] = s.refs[j], s.refs[i]
	case s.page.Kind == api.Inner && r.Intn(2) == 0:
		s.refs[r.Intn(len(s.refs))] = slices.Max(s.refs) - r.Intn(slices.Max(s.refs)+1)
	case s.page.Kind == api.Inner:
		s.page.Cell.Level = min(s.page.Cell.Level+1, 31)
		s.page.Cell.X, s.page.Cell.Y = 0, 0
	case len(s.refs) > 0 && r.Intn(3) == 0:
		s.refs = nil
	case len(s.page.Rows) > 1 && r.Intn(2) == 0:
		s.page.Rows = s.page.Rows[1:]
	case len(s.page.Rows) > 0:
		s.page.Rows = slices.Clone(s.page.Rows)
		row := &s.page.Rows[r.Intn(len(s.page.Rows))]
		row.X ^= 1 << r.Intn(31)
	}
}

// TestLoadForgedMany (P14.2): what is loaded of forged pages are the pages of its rows, or it is refused; and it is
// refused only if they are not.
func TestLoadForgedMany(t *testing.T) {
	r := rand.New(rand.NewSource(21))
	loaded, told := 0, 0
	for range 2000 {
		_, v := start(t, 120)
		forged := shapes(nil, joined(someRows(r, 30), pile(1000, r.Intn(10), 2, 2)))
		for range 1 + r.Intn(2) {
			forge(r, forged)
		}
		s := make([]api.Saved, len(forged))
		for i, p := range forged {
			s[i].Text = text(t, p, refsOf(s))
			s[i].Ref = write(t, v, s[i].Text)
		}
		var read []api.Saved
		var all []api.Row
		var gather func(i int)
		gather = func(i int) {
			for _, k := range forged[i].refs {
				gather(k)
			}
			read = append(read, s[i])
			all = append(all, forged[i].page.Rows...)
		}
		gather(len(forged) - 1)
		slices.SortFunc(all, func(a, b api.Row) int { return cmp.Compare(a.Id, b.Id) })
		l, pages, e := Load(v, s[len(s)-1].Ref)
		if right := arePages(t, all, read); !right {
			told++
			if e != api.ErrIntegrity || len(l) != 0 || len(pages) != 0 {
				t.Fatal(e, len(l), len(pages))
			}
			continue
		}
		loaded++
		if e != api.OK || !slices.Equal(l, all) || !slices.Equal(pages, read) {
			t.Fatal(e, len(l), len(pages))
		}
	}
	if loaded < 100 || told < 100 {
		t.Error("hardly tried:", loaded, told)
	}
}

// arePages tells whether pages are those of rows, by the words of the document alone.
func arePages(t *testing.T, l []api.Row, pages []api.Saved) bool {
	t.Helper()
	for i := range l {
		if i > 0 && l[i-1].Id >= l[i].Id {
			return false
		}
	}
	want := shapes(nil, l)
	if len(want) != len(pages) {
		return false
	}
	for i, s := range want {
		if text(t, s, refsOf(pages)) != pages[i].Text {
			return false
		}
	}
	return true
}

// TestMemory (R3): what is handed in stays as it was, its spare room too; answers are new memory each time.
func TestMemory(t *testing.T) {
	_, v := start(t, 60)
	spare := append(joined(spread(9), pile(100, 9, 3, 3)), pile(500, 5, 1, 1)...)
	l := spare[:18]
	first := save(t, v, l, nil)
	room := append(slices.Clone(first), api.Saved{Text: "spare"}, api.Saved{Text: "room"})
	had := room[:len(first)-2]
	spareWas, roomWas := slices.Clone(spare), slices.Clone(room)
	s := save(t, v, l, had)
	wide := s[:cap(s)]
	for i := range wide {
		wide[i] = api.Saved{}
	}
	if !slices.Equal(spare, spareWas) || !slices.Equal(room, roomWas) {
		t.Error("what was handed in has changed")
	}
	got, pages, e := Load(v, first[len(first)-1].Ref)
	if e != api.OK {
		t.Fatal(e)
	}
	clear(got[:cap(got)])
	clear(pages[:cap(pages)])
	loads(t, v, l, first)
	if n := save(t, v, l, append(first[:0:0], first...)); !slices.Equal(n, first) {
		t.Error("other pages")
	}
}
