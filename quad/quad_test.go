package quad

import (
	"cmp"
	"math"
	"math/rand"
	"reflect"
	"slices"
	"strings"
	"testing"

	"sphragis/api"
)

const last = api.MaxPlace - 1 // the plane's greatest place

// at are rows at points, x and y in turn, with the Ids 1, 2, 3 ..
func at(places ...uint32) []api.Row {
	var out []api.Row
	for i := 0; i < len(places); i += 2 {
		out = append(out, api.Row{Id: uint64(i/2 + 1), X: places[i], Y: places[i+1]})
	}
	return out
}

// pile are rows at one point.
func pile(count int, x, y uint32) []api.Row {
	var out []api.Row
	for i := range count {
		out = append(out, api.Row{Id: uint64(i + 1), X: x, Y: y})
	}
	return out
}

// ids are those of rows.
func ids(l []api.Row) []uint64 {
	var out []uint64
	for _, r := range l {
		out = append(out, r.Id)
	}
	return out
}

// built is the tree of rows that are right.
func built(t *testing.T, l []api.Row) api.Node {
	t.Helper()
	n, e := Build(l)
	if e != api.OK {
		t.Fatalf("Build of %d rows: %d", len(l), e)
	}
	return n
}

// place is one of the plane: among few ones, near its edges, near great lines, or anywhere.
func place(r *rand.Rand, kind int) uint32 {
	switch kind {
	case 0:
		return uint32(r.Intn(4))
	case 1:
		return uint32(r.Intn(40))
	case 2:
		return last - uint32(r.Intn(8))
	case 3:
		return uint32(1)<<r.Intn(31) - uint32(r.Intn(2))
	}
	return uint32(r.Intn(api.MaxPlace))
}

// someRows are right ones, by chance.
func someRows(r *rand.Rand, most int) []api.Row {
	var out []api.Row
	id, kind := uint64(r.Intn(3)), r.Intn(6)
	for range r.Intn(most + 1) {
		k := kind
		if k == 5 {
			k = r.Intn(5)
		}
		out = append(out, api.Row{Id: id, X: place(r, k), Y: place(r, k), Val: strings.Repeat("v", r.Intn(17))})
		id += 1 + uint64(r.Intn(5))
	}
	return out
}

// trees calls body with many lists of rows, great ones too, and their trees.
func trees(t *testing.T, seed int64, body func(r *rand.Rand, l []api.Row, n api.Node)) {
	t.Helper()
	r := rand.New(rand.NewSource(seed))
	for i := range 400 {
		most := 30
		if i%40 == 0 {
			most = api.MaxRows
		}
		l := someRows(r, most)
		body(r, l, built(t, l))
	}
}

// kept are the rows of l that keep takes, one by one.
func kept(l []api.Row, keep func(api.Row) bool) []api.Row {
	var out []api.Row
	for _, r := range l {
		if keep(r) {
			out = append(out, r)
		}
	}
	return out
}

// squared is the square of a distance, in one more way than the package has.
func squared(r api.Row, x, y uint32) uint64 {
	dx, dy := uint64(max(r.X, x)-min(r.X, x)), uint64(max(r.Y, y)-min(r.Y, y))
	return dx*dx + dy*dy
}

// TestRightRow (P9.1): points of the plane, values of at most 16 bytes, any Id.
func TestRightRow(t *testing.T) {
	for _, c := range []struct {
		row  api.Row
		want bool
	}{
		{api.Row{}, true},
		{api.Row{Id: math.MaxUint64, X: last, Y: last, Val: strings.Repeat("\xff", 16)}, true},
		{api.Row{X: 1 << 31}, false},
		{api.Row{Y: 1 << 31}, false},
		{api.Row{X: math.MaxUint32}, false},
		{api.Row{Y: math.MaxUint32}, false},
		{api.Row{Val: strings.Repeat("a", 15)}, true},
		{api.Row{Val: strings.Repeat("a", 17)}, false},
		{api.Row{Val: strings.Repeat("é", 8)}, true},
		{api.Row{Val: strings.Repeat("é", 9)}, false},
		{api.Row{Val: strings.Repeat("\x00", 17)}, false},
	} {
		if got := RightRow(c.row); got != c.want {
			t.Errorf("RightRow(%v): %v", c.row, got)
		}
		if got := Right([]api.Row{c.row}); got != c.want {
			t.Errorf("Right of %v alone: %v", c.row, got)
		}
	}
}

// wrongLists are lists of rows that are not right, each by one thing.
func wrongLists() [][]api.Row {
	wrong := api.Row{Id: 2, X: 1 << 31}
	return [][]api.Row{
		{{Id: 2}, {Id: 2}},
		{{Id: 2}, {Id: 1}},
		{{Id: 0}, {Id: 0}},
		{{Id: 1}, {Id: 3}, {Id: 2}},
		{{Id: 1}, {Id: 2}, {Id: 1}},
		{{Id: math.MaxUint64}, {Id: 0}},
		{wrong},
		{{Id: 1}, wrong},
		{wrong, {Id: 3}},
		{{Id: 1}, wrong, {Id: 3}},
		{{Id: 1}, {Id: 2, Val: strings.Repeat("a", 17)}},
		{{Id: 1}, {Id: 2, Y: math.MaxUint32}},
		pile(api.MaxRows+1, 3, 3),
		pile(3*api.MaxRows, 3, 3),
	}
}

// TestRight (P9.1): at most 1000 right rows whose Ids rise.
func TestRight(t *testing.T) {
	for _, l := range [][]api.Row{
		nil,
		{},
		{{Id: 0}},
		{{Id: 0}, {Id: 1}, {Id: math.MaxUint64}},
		{{Id: 1, X: 9}, {Id: 7, X: 2}},
		{{Id: 1}, {Id: 2}},
		pile(api.MaxRows, 3, 3),
	} {
		if !Right(l) {
			t.Errorf("%d rows are not right: %v", len(l), ids(l))
		}
		if _, e := Build(l); e != api.OK {
			t.Errorf("Build of %v: %d", ids(l), e)
		}
	}
	for i, l := range wrongLists() {
		if Right(l) {
			t.Errorf("the wrong list %d is right", i)
		}
	}
}

// TestBuildRefuses (P9.1, R2): ErrRow, and the empty Node.
func TestBuildRefuses(t *testing.T) {
	for i, l := range wrongLists() {
		if n, e := Build(l); e != api.ErrRow || !reflect.DeepEqual(n, api.Node{}) {
			t.Errorf("Build of the wrong list %d: %v, %d", i, n, e)
		}
	}
}

// TestBuild (P9.1): the chapter's examples, and each edge of its words.
func TestBuild(t *testing.T) {
	five := at(0, 0, 0, 0, 0, 0, 0, 0, 0, 0, 8, 0)
	spread := at(3, 3, 0, 3, 3, 0, 0, 0, 1, 1)
	full := pile(api.MaxRows, last, last)
	for _, c := range []struct {
		name string
		rows []api.Row
		want api.Node
	}{
		{"none", nil, api.Node{}},
		{"an empty list", []api.Row{}, api.Node{}},
		{"two", at(1, 1, 2, 2), api.Node{Cell: api.Cell{Level: 2}, Rows: at(1, 1, 2, 2)}},
		{"five at a point, one elsewhere", five, api.Node{Cell: api.Cell{Level: 4}, Kids: []api.Node{
			{Rows: five[:5]},
			{Cell: api.Cell{X: 8}, Rows: five[5:]},
		}}},
		{"one", at(5, 6), api.Node{Cell: api.Cell{X: 5, Y: 6}, Rows: at(5, 6)}},
		{"the greatest point", at(last, last), api.Node{Cell: api.Cell{X: last, Y: last}, Rows: at(last, last)}},
		{"four apart", spread[:4], api.Node{Cell: api.Cell{Level: 2}, Rows: spread[:4]}},
		{"five apart: a kid each quarter, in order", spread, api.Node{Cell: api.Cell{Level: 2}, Kids: []api.Node{
			{Cell: api.Cell{Level: 1}, Rows: []api.Row{spread[3], spread[4]}},
			{Cell: api.Cell{X: 3}, Rows: spread[2:3]},
			{Cell: api.Cell{Y: 3}, Rows: spread[1:2]},
			{Cell: api.Cell{X: 3, Y: 3}, Rows: spread[:1]},
		}}},
		{"1000 at a point", full, api.Node{Cell: api.Cell{X: last, Y: last}, Rows: full}},
		{"both ends of the plane", at(0, 0, last, last), api.Node{Cell: api.Cell{Level: 31}, Rows: at(0, 0, last, last)}},
		{"the first two do not say it", at(4, 4, 5, 4, 4, 9), api.Node{Cell: api.Cell{Level: 4}, Rows: at(4, 4, 5, 4, 4, 9)}},
	} {
		n, e := Build(c.rows)
		if e != api.OK || !reflect.DeepEqual(plainly(n), plainly(c.want)) {
			t.Errorf("%s: %v, %d", c.name, n, e)
		}
	}
}

// plainly is n with nil for each empty list, for the two are one.
func plainly(n api.Node) api.Node {
	out := api.Node{Cell: n.Cell}
	out.Rows = append(out.Rows, n.Rows...)
	for _, k := range n.Kids {
		out.Kids = append(out.Kids, plainly(k))
	}
	return out
}

// TestBuildDeep (P9.1): points that only the last of all cuts tells apart.
func TestBuildDeep(t *testing.T) {
	var l []api.Row
	for level := range 32 {
		p := uint32(1)<<level - 1 // one in each half of all cells from the whole plane down to one point
		for range 5 {
			l = append(l, api.Row{Id: uint64(len(l)), X: p, Y: p})
		}
	}
	n, deep := built(t, l), 0
	for len(n.Kids) > 0 {
		if want := (api.Cell{Level: 31 - deep}); n.Cell != want || len(n.Kids) != 2 || len(n.Rows) != 0 {
			t.Fatalf("at depth %d: %v, %d kids", deep, n.Cell, len(n.Kids))
		}
		if k := n.Kids[1]; len(k.Rows) != 5 || len(k.Kids) != 0 || k.Cell.Level != 0 {
			t.Fatalf("at depth %d: %v, %d rows", deep, k.Cell, len(k.Rows))
		}
		n, deep = n.Kids[0], deep+1
	}
	if deep != 31 || n.Cell != (api.Cell{}) || !slices.Equal(n.Rows, l[:5]) {
		t.Error(deep, n)
	}
}

// leastOf is the least cell of all points, found by going up from a point's own cell.
func leastOf(l []api.Row) api.Cell {
	for level := range 32 {
		size := uint64(1) << level
		same := func(r api.Row) bool {
			return uint64(r.X)/size == uint64(l[0].X)/size && uint64(r.Y)/size == uint64(l[0].Y)/size
		}
		if len(kept(l, same)) == len(l) {
			return api.Cell{X: l[0].X / uint32(size) * uint32(size), Y: l[0].Y / uint32(size) * uint32(size), Level: level}
		}
	}
	return api.Cell{}
}

// checkTree holds n against the chapter's words for the tree of l.
func checkTree(t *testing.T, n api.Node, l []api.Row) {
	t.Helper()
	if len(l) == 0 {
		if n.Cell != (api.Cell{}) || len(n.Rows)+len(n.Kids) != 0 {
			t.Fatalf("of no rows: %v", n)
		}
		return
	}
	c := leastOf(l)
	if n.Cell != c {
		t.Fatalf("the cell %v, not %v", n.Cell, c)
	}
	if len(l) <= 4 || c.Level == 0 {
		if !slices.Equal(n.Rows, l) || len(n.Kids) != 0 {
			t.Fatalf("%d rows: %v", len(l), n)
		}
		return
	}
	if len(n.Rows) != 0 {
		t.Fatalf("rows beside kids: %v", n)
	}
	half, next := uint32(1)<<(c.Level-1), 0
	for q := range uint32(4) {
		part := kept(l, func(r api.Row) bool { return (r.X-c.X)/half == q%2 && (r.Y-c.Y)/half == q/2 })
		if len(part) == 0 {
			continue
		}
		if next >= len(n.Kids) {
			t.Fatalf("the quarter %d of %v has no kid", q, c)
		}
		checkTree(t, n.Kids[next], part)
		next++
	}
	if next != len(n.Kids) {
		t.Fatalf("%d kids of %v, not %d", len(n.Kids), c, next)
	}
}

// TestBuildByWords (P9.1): trees by chance are what the chapter's words say.
func TestBuildByWords(t *testing.T) {
	trees(t, 1, func(r *rand.Rand, l []api.Row, n api.Node) { checkTree(t, n, l) })
}

// TestRows (P9.2): what was built is told again, by rising Ids, and how many they are.
func TestRows(t *testing.T) {
	trees(t, 2, func(r *rand.Rand, l []api.Row, n api.Node) {
		if got := Rows(n); !slices.Equal(got, l) {
			t.Fatalf("Rows: %v, not %v", ids(got), ids(l))
		}
		if got := Size(n); got != len(l) {
			t.Fatalf("Size: %d, not %d", got, len(l))
		}
	})
	if got := Rows(api.Node{}); len(got) != 0 || Size(api.Node{}) != 0 {
		t.Error(got)
	}
	full := pile(api.MaxRows, 7, 7)
	if n := built(t, full); Size(n) != api.MaxRows || !slices.Equal(Rows(n), full) {
		t.Error("1000 rows at a point")
	}
}

// checkBox holds Window and Count against rows that are asked one by one.
func checkBox(t *testing.T, n api.Node, l []api.Row, b api.Box) {
	t.Helper()
	want := kept(l, func(r api.Row) bool { return b.X0 <= r.X && r.X <= b.X1 && b.Y0 <= r.Y && r.Y <= b.Y1 })
	if got, e := Window(n, b); !slices.Equal(got, want) || e != api.OK {
		t.Fatalf("Window of %v: %v, %d, not %v", b, ids(got), e, ids(want))
	}
	if got, e := Count(n, b); got != len(want) || e != api.OK {
		t.Fatalf("Count of %v: %d, %d, not %d", b, got, e, len(want))
	}
}

// TestBoxes (P9.2): boxes by chance, many with a row at a corner, and the whole plane.
func TestBoxes(t *testing.T) {
	trees(t, 3, func(r *rand.Rand, l []api.Row, n api.Node) {
		checkBox(t, n, l, api.Box{X1: last, Y1: last})
		checkBox(t, n, l, api.Box{X0: last, Y0: last, X1: last, Y1: last})
		for range 20 {
			var x, y [2]uint32
			for i := range 2 {
				x[i], y[i] = place(r, r.Intn(5)), place(r, r.Intn(5))
				if len(l) > 0 && r.Intn(2) == 0 {
					p := l[r.Intn(len(l))]
					x[i], y[i] = p.X, p.Y
				}
			}
			checkBox(t, n, l, api.Box{X0: min(x[0], x[1]), Y0: min(y[0], y[1]), X1: max(x[0], x[1]), Y1: max(y[0], y[1])})
		}
	})
}

// TestBoxEdges (P9.2): a box has both its corners.
func TestBoxEdges(t *testing.T) {
	l := at(4, 4, 3, 4, 4, 3, 6, 7, 7, 7, 6, 8, 5, 5, 4, 7, 6, 4)
	n := built(t, l)
	checkBox(t, n, l, api.Box{X0: 4, Y0: 4, X1: 6, Y1: 7})
	if got, e := Window(n, api.Box{X0: 4, Y0: 4, X1: 6, Y1: 7}); !slices.Equal(ids(got), []uint64{1, 4, 7, 8, 9}) || e != api.OK {
		t.Error(ids(got), e)
	}
	checkBox(t, n, l, api.Box{X0: 5, Y0: 5, X1: 5, Y1: 5})
	checkBox(t, n, l, api.Box{X0: 100, Y0: 100, X1: 200, Y1: 200})
}

// TestBoxesRefused (P9.2, R2): ErrBox, of trees of rows and of none, and nothing beside it.
func TestBoxesRefused(t *testing.T) {
	for _, n := range []api.Node{{}, built(t, at(0, 0, 1, 1)), built(t, at(0, 0, 1, 1, 2, 2, 3, 3, 4, 4))} {
		for _, b := range []api.Box{
			{X0: 1},
			{Y0: 1},
			{X0: 5, X1: 4, Y1: 9},
			{Y0: 5, Y1: 4, X1: 9},
			{X1: 1 << 31, Y1: 9},
			{X1: 9, Y1: 1 << 31},
			{X1: math.MaxUint32, Y1: math.MaxUint32},
			{X0: 1 << 31, Y0: 1 << 31, X1: 1 << 31, Y1: 1 << 31},
		} {
			if got, e := Window(n, b); len(got) != 0 || e != api.ErrBox {
				t.Errorf("Window of %v: %v, %d", b, got, e)
			}
			if got, e := Count(n, b); got != 0 || e != api.ErrBox {
				t.Errorf("Count of %v: %d, %d", b, got, e)
			}
		}
	}
}

// checkRound holds Round against rows that are asked one by one.
func checkRound(t *testing.T, n api.Node, l []api.Row, x, y uint32, square uint64) {
	t.Helper()
	want := kept(l, func(r api.Row) bool { return squared(r, x, y) <= square })
	if got, e := Round(n, x, y, square); !slices.Equal(got, want) || e != api.OK {
		t.Fatalf("Round of %d, %d, %d: %v, %d, not %v", x, y, square, ids(got), e, ids(want))
	}
}

// point is one of the plane, by chance that of a row.
func point(r *rand.Rand, l []api.Row) (x, y uint32) {
	if len(l) > 0 && r.Intn(2) == 0 {
		p := l[r.Intn(len(l))]
		return p.X, p.Y
	}
	return place(r, r.Intn(5)), place(r, r.Intn(5))
}

// TestRound (P9.2): squares that just reach a row, that just do not, none at all, and all.
func TestRound(t *testing.T) {
	trees(t, 4, func(r *rand.Rand, l []api.Row, n api.Node) {
		for range 10 {
			x, y := point(r, l)
			checkRound(t, n, l, x, y, 0)
			checkRound(t, n, l, x, y, math.MaxUint64)
			checkRound(t, n, l, x, y, uint64(r.Intn(2000)))
			if len(l) == 0 {
				continue
			}
			far := squared(l[r.Intn(len(l))], x, y)
			checkRound(t, n, l, x, y, far)
			checkRound(t, n, l, x, y, far-min(far, 1))
		}
	})
}

// TestRoundEdges (P9.2): a row at the square is no farther; across the whole plane.
func TestRoundEdges(t *testing.T) {
	n, width := built(t, at(0, 0, last, last)), uint64(last)
	for _, c := range []struct {
		x, y   uint32
		square uint64
		want   []uint64
	}{
		{3, 4, 25, []uint64{1}},
		{3, 4, 24, nil},
		{0, 0, 0, []uint64{1}},
		{last, last, 0, []uint64{2}},
		{0, 0, 2 * width * width, []uint64{1, 2}},
		{0, 0, 2*width*width - 1, []uint64{1}},
		{last, 0, width * width, []uint64{1, 2}},
		{last, 0, width*width - 1, nil},
		{0, last, math.MaxUint64, []uint64{1, 2}},
	} {
		if got, e := Round(n, c.x, c.y, c.square); !slices.Equal(ids(got), c.want) || e != api.OK {
			t.Errorf("Round of %d, %d, %d: %v, %d", c.x, c.y, c.square, ids(got), e)
		}
	}
}

// checkNear holds Near against all rows, sorted.
func checkNear(t *testing.T, n api.Node, l []api.Row, x, y uint32, k int) {
	t.Helper()
	want := slices.Clone(l)
	slices.SortFunc(want, func(a, b api.Row) int {
		return cmp.Or(cmp.Compare(squared(a, x, y), squared(b, x, y)), cmp.Compare(a.Id, b.Id))
	})
	want = want[:min(k, len(want))]
	if got, e := Near(n, x, y, k); !slices.Equal(got, want) || e != api.OK {
		t.Fatalf("Near of %d, %d, %d: %v, %d, not %v", x, y, k, ids(got), e, ids(want))
	}
}

// TestNear (P9.2): any k: none, some, all, more than there are.
func TestNear(t *testing.T) {
	trees(t, 5, func(r *rand.Rand, l []api.Row, n api.Node) {
		for range 10 {
			x, y := point(r, l)
			for _, k := range []int{0, 1, 2, r.Intn(8), r.Intn(len(l) + 1), max(len(l)-1, 0), len(l), len(l) + 1, math.MaxInt} {
				checkNear(t, n, l, x, y, k)
			}
		}
	})
}

// TestNearTies (P9.2): of rows that are as far the lesser Ids come, wherever in the tree they are.
func TestNearTies(t *testing.T) {
	corners := [][2]uint32{{0, 0}, {20, 0}, {0, 20}, {20, 20}}
	for turn := range 4 {
		var l []api.Row
		for i := range 24 { // six at each corner, of which the middle is as far from all
			p := corners[(i+turn)%4]
			l = append(l, api.Row{Id: uint64(10 + i), X: p[0], Y: p[1]})
		}
		n := built(t, l)
		for k := range 26 {
			got, e := Near(n, 10, 10, k)
			if !slices.Equal(got, l[:min(k, 24)]) || e != api.OK {
				t.Fatalf("%d nearest: %v, %d", k, ids(got), e)
			}
		}
	}
	// The nearest corner of the greater cell is as far as the row that was found first.
	l := []api.Row{{Id: 1, X: 16}, {Id: 2, X: 31, Y: 15}, {Id: 3, X: 20}, {Id: 4, X: 21}, {Id: 5, X: 22}, {Id: 6, X: 14}}
	checkNear(t, built(t, l), l, 15, 0, 1)
	checkNear(t, built(t, l), l, 15, 0, 2)
}

// TestPointsRefused (P9.2, R2): ErrArg at points off the plane and at a k below 0, of trees of rows and of none.
func TestPointsRefused(t *testing.T) {
	for _, n := range []api.Node{{}, built(t, at(0, 0, 1, 1)), built(t, at(0, 0, 1, 1, 2, 2, 3, 3, 4, 4))} {
		for _, p := range [][2]uint32{{1 << 31, 0}, {0, 1 << 31}, {math.MaxUint32, 0}, {0, math.MaxUint32}, {1 << 31, 1 << 31}} {
			if got, e := Round(n, p[0], p[1], math.MaxUint64); len(got) != 0 || e != api.ErrArg {
				t.Errorf("Round of %v: %v, %d", p, got, e)
			}
			for _, k := range []int{-1, 0, 1} {
				if got, e := Near(n, p[0], p[1], k); len(got) != 0 || e != api.ErrArg {
					t.Errorf("Near of %v, %d: %v, %d", p, k, got, e)
				}
			}
		}
		for _, k := range []int{-1, -2, math.MinInt} {
			if got, e := Near(n, 0, 0, k); len(got) != 0 || e != api.ErrArg {
				t.Errorf("Near of %d: %v, %d", k, got, e)
			}
		}
	}
}

// tally is how many nodes there are, and how many of them have no row at all below.
func tally(n api.Node) (all, bare int) {
	all = 1
	if Size(n) == 0 {
		bare = 1
	}
	for _, k := range n.Kids {
		a, b := tally(k)
		all, bare = all+a, bare+b
	}
	return all, bare
}

// TestNoBareCells (P9.3): no node without rows, and no more nodes than twice the rows.
func TestNoBareCells(t *testing.T) {
	check := func(l []api.Row, n api.Node) {
		if len(l) == 0 {
			return
		}
		if all, bare := tally(n); bare != 0 || all > 2*len(l) {
			t.Fatalf("%d rows: %d nodes, %d without rows", len(l), all, bare)
		}
	}
	trees(t, 6, func(r *rand.Rand, l []api.Row, n api.Node) { check(l, n) })
	var thin []api.Row // a row in each half from the whole plane down: the most cells for so few rows
	for level := 31; level >= 0; level-- {
		thin = append(thin, api.Row{Id: uint64(100 - level), X: uint32(1)<<level - 1})
	}
	slices.SortFunc(thin, func(a, b api.Row) int { return cmp.Compare(a.Id, b.Id) })
	check(thin, built(t, thin))
}

// scribble writes over all of a list, its spare room too.
func scribble(l []api.Row) {
	l = l[:cap(l)]
	for i := range l {
		l[i] = api.Row{Id: 99, X: 99, Y: 99, Val: "scribble"}
	}
}

// allRows are the row lists of all nodes.
func allRows(n api.Node) [][]api.Row {
	out := [][]api.Row{n.Rows}
	for _, k := range n.Kids {
		out = append(out, allRows(k)...)
	}
	return out
}

// memoryLists are rows with spare room behind them, in a tree of one node and in greater ones.
func memoryLists() [][]api.Row {
	var out [][]api.Row
	for _, l := range [][]api.Row{at(1, 1, 2, 2), pile(9, 3, 3), at(0, 0, 0, 0, 0, 0, 0, 0, 0, 0, 8, 0), at(0, 0, 9, 9, 3, 3, 0, 5, 5, 0, 7, 7, 2, 1, 1, 2, 6, 6, 4, 4)} {
		out = append(out, append(make([]api.Row, 0, 20), l...))
	}
	return out
}

// TestMemoryOfTrees (R3): a tree keeps nothing of the rows that it is built of, and no two of its lists share memory.
func TestMemoryOfTrees(t *testing.T) {
	for _, l := range memoryLists() {
		whole := slices.Clone(l[:cap(l)])
		n, want := built(t, l), built(t, slices.Clone(l))
		if !slices.Equal(l[:cap(l)], whole) {
			t.Fatal("Build wrote into its rows")
		}
		scribble(l)
		if !reflect.DeepEqual(n, want) {
			t.Fatal("a tree kept its rows' list")
		}
		for i := range allRows(n) {
			n, held := built(t, whole[:len(l)]), allRows(want)
			scribble(allRows(n)[i])
			for j, r := range allRows(n) {
				if j != i && !slices.Equal(r, held[j]) {
					t.Fatalf("the lists %d and %d of a tree share memory", i, j)
				}
			}
		}
		n = built(t, whole[:len(l)])
		spare := n.Kids[:cap(n.Kids)]
		for i := len(n.Kids); i < len(spare); i++ {
			spare[i] = api.Node{Cell: api.Cell{Level: 77}}
		}
		if !reflect.DeepEqual(n, want) {
			t.Fatal("the spare room of kids is another list's")
		}
	}
}

// TestMemoryOfAnswers (R3): what is told of a tree is new memory, and asking changes nothing.
func TestMemoryOfAnswers(t *testing.T) {
	for _, l := range memoryLists() {
		n, want := built(t, l), built(t, l)
		ask := func() [][]api.Row {
			w, _ := Window(n, api.Box{X1: last, Y1: last})
			o, _ := Round(n, 4, 4, math.MaxUint64)
			k, _ := Near(n, 4, 4, 3)
			m, _ := Near(n, 4, 4, 50)
			return [][]api.Row{Rows(n), w, o, k, m}
		}
		first := ask()
		if !reflect.DeepEqual(n, want) {
			t.Fatal("a question changed the tree")
		}
		for _, a := range first {
			scribble(a)
		}
		if !reflect.DeepEqual(n, want) {
			t.Fatal("an answer shares memory with the tree")
		}
		if again := ask(); !slices.Equal(again[0], l) || !slices.Equal(again[1], l) || !slices.Equal(again[2], l) || len(again[4]) != len(l) {
			t.Fatal("an answer was kept")
		}
	}
}

// wrongTrees are nodes that no rows are built to; some hold themselves.
func wrongTrees() []api.Node {
	row := []api.Row{{Id: 1, X: 1 << 31, Y: math.MaxUint32, Val: strings.Repeat("a", 99)}, {Id: 1}, {Id: 0, X: 5}}
	out := []api.Node{
		{Rows: row},
		{Cell: api.Cell{Level: 31}, Rows: row, Kids: []api.Node{{Rows: row}, {}, {Rows: row}}},
		{Kids: []api.Node{{}, {}}},
		{Cell: api.Cell{X: 1, Level: 3}, Rows: row, Kids: []api.Node{{Rows: row}}},
	}
	for _, level := range []int{-1, 32, 64, math.MinInt, math.MaxInt} {
		c := api.Cell{X: math.MaxUint32, Y: 1 << 31, Level: level}
		out = append(out, api.Node{Cell: c, Rows: row, Kids: []api.Node{{Cell: c, Rows: row}}})
	}
	for _, level := range []int{0, 1, 31, 32, -1} {
		round := make([]api.Node, 4)
		for i := range round {
			round[i] = api.Node{Cell: api.Cell{Level: level}, Rows: row, Kids: round}
		}
		out = append(out, round[0])
	}
	shared := api.Node{Rows: row} // each node holds one list four times: 4 to the power of 31 ways down
	for level := 1; level < 32; level++ {
		below := []api.Node{shared}
		for range 3 {
			below = append(below, api.Node{Cell: shared.Cell, Rows: shared.Rows, Kids: shared.Kids})
		}
		shared = api.Node{Cell: api.Cell{Level: level}, Kids: below}
	}
	chain := api.Node{Rows: row}
	for range 1 << 16 {
		chain = api.Node{Rows: row, Kids: []api.Node{chain}}
	}
	return append(out, shared, chain)
}

// TestWrongTrees (R1): of a node that is no tree of right rows calls answer too, and tell their errors.
func TestWrongTrees(t *testing.T) {
	for i, n := range wrongTrees() {
		if got := len(Rows(n)); got != Size(n) {
			t.Errorf("the wrong tree %d: %d rows, Size %d", i, got, Size(n))
		}
		for _, b := range []api.Box{{}, {X1: last, Y1: last}} {
			w, e := Window(n, b)
			if c, e2 := Count(n, b); c != len(w) || e != api.OK || e2 != api.OK {
				t.Errorf("the wrong tree %d: %d, %d, %d, %d", i, len(w), c, e, e2)
			}
		}
		if _, e := Round(n, 3, 3, math.MaxUint64); e != api.OK {
			t.Errorf("the wrong tree %d: %d", i, e)
		}
		if got, e := Near(n, 3, 3, 1); len(got) > 1 || e != api.OK {
			t.Errorf("the wrong tree %d: %v, %d", i, got, e)
		}
		_, e := Window(n, api.Box{X0: 1})
		_, e2 := Round(n, 1<<31, 0, 0)
		if _, e3 := Near(n, 0, 0, -1); e != api.ErrBox || e2 != api.ErrArg || e3 != api.ErrArg {
			t.Errorf("the wrong tree %d: %d, %d, %d", i, e, e2, e3)
		}
	}
}
