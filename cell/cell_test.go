package cell

import (
	"math"
	"math/rand"
	"testing"

	"sphragis/api"
)

const last = api.MaxPlace - 1 // the plane's greatest place

// TestRight (P8.1): levels 0 to 31, corners that are multiples of the size, on the plane.
func TestRight(t *testing.T) {
	for _, c := range []struct {
		cell api.Cell
		want bool
	}{
		{api.Cell{}, true},
		{api.Cell{X: last, Y: last}, true},
		{api.Cell{X: 3, Y: 7}, true},
		{api.Cell{X: 2, Y: 6, Level: 1}, true},
		{api.Cell{X: 3, Y: 6, Level: 1}, false},
		{api.Cell{X: 2, Y: 7, Level: 1}, false},
		{api.Cell{X: 2, Level: 2}, false},
		{api.Cell{Y: 2, Level: 2}, false},
		{api.Cell{X: 1 << 30, Y: 1 << 30, Level: 30}, true},
		{api.Cell{X: 1 << 29, Level: 30}, false},
		{api.Cell{Level: 31}, true},
		{api.Cell{X: 1 << 30, Level: 31}, false},
		{api.Cell{X: 1 << 31, Level: 31}, false},
		{api.Cell{Y: 1 << 31, Level: 31}, false},
		{api.Cell{X: 1 << 31}, false},
		{api.Cell{Y: 1 << 31}, false},
		{api.Cell{X: math.MaxUint32, Y: math.MaxUint32}, false},
		{api.Cell{Level: 32}, false},
		{api.Cell{Level: 33}, false},
		{api.Cell{Level: 64}, false},
		{api.Cell{Level: -1}, false},
		{api.Cell{Level: math.MaxInt}, false},
		{api.Cell{Level: math.MinInt}, false},
	} {
		if got := Right(c.cell); got != c.want {
			t.Errorf("Right(%v): %v", c.cell, got)
		}
	}
}

// TestRightBox (P8.1): corners in their order, on the plane; one point is a box too.
func TestRightBox(t *testing.T) {
	for _, c := range []struct {
		box  api.Box
		want bool
	}{
		{api.Box{}, true},
		{api.Box{X0: last, Y0: last, X1: last, Y1: last}, true},
		{api.Box{X1: last, Y1: last}, true},
		{api.Box{X0: 3, Y0: 4, X1: 3, Y1: 5}, true},
		{api.Box{X0: 4, Y0: 4, X1: 3, Y1: 5}, false},
		{api.Box{X0: 3, Y0: 6, X1: 3, Y1: 5}, false},
		{api.Box{X1: 1 << 31}, false},
		{api.Box{Y1: 1 << 31}, false},
		{api.Box{X0: 1 << 31, X1: 1 << 31}, false},
		{api.Box{X0: 1 << 31}, false},
		{api.Box{X1: math.MaxUint32, Y1: math.MaxUint32}, false},
	} {
		if got := RightBox(c.box); got != c.want {
			t.Errorf("RightBox(%v): %v", c.box, got)
		}
	}
}

// TestHas (P8.1): from the least corner up to, not with, the size; nothing of a wrong cell, nothing off the plane.
func TestHas(t *testing.T) {
	c := api.Cell{X: 4, Y: 8, Level: 2}
	for x := range uint32(16) {
		for y := range uint32(16) {
			want := x >= 4 && x < 8 && y >= 8 && y < 12
			if got := Has(c, x, y); got != want {
				t.Errorf("Has(%v, %d, %d): %v", c, x, y, got)
			}
		}
	}
	whole := api.Cell{Level: 31}
	if !Has(whole, 0, 0) || !Has(whole, last, last) || !Has(whole, last, 0) || !Has(whole, 0, last) {
		t.Error("the whole plane lacks a corner")
	}
	if Has(whole, 1<<31, 0) || Has(whole, 0, 1<<31) || Has(whole, math.MaxUint32, math.MaxUint32) {
		t.Error("a cell has a point off the plane")
	}
	if Has(api.Cell{X: 1, Level: 1}, 1, 0) || Has(api.Cell{X: 1, Level: 1}, 0, 0) || Has(api.Cell{Level: 32}, 0, 0) || Has(api.Cell{Level: -1}, 0, 0) {
		t.Error("a wrong cell has a point")
	}
	if Has(api.Cell{X: 1 << 31}, 1<<31, 0) || Has(api.Cell{Y: 1 << 31, Level: 31}, 0, 1<<31) {
		t.Error("a cell off the plane has a point")
	}
}

// TestIn (P8.1): both corners are within; nothing of a wrong box, nothing off the plane.
func TestIn(t *testing.T) {
	b := api.Box{X0: 3, Y0: 5, X1: 6, Y1: 5}
	for x := range uint32(10) {
		for y := range uint32(10) {
			want := x >= 3 && x <= 6 && y == 5
			if got := In(b, x, y); got != want {
				t.Errorf("In(%v, %d, %d): %v", b, x, y, got)
			}
		}
	}
	whole := api.Box{X1: last, Y1: last}
	if !In(whole, 0, 0) || !In(whole, last, last) || In(whole, 1<<31, 0) || In(whole, 0, 1<<31) {
		t.Error("the whole plane's edges")
	}
	if In(api.Box{X1: math.MaxUint32, Y1: 9}, 1, 1) || In(api.Box{X1: 9, Y1: 1 << 31}, 1, 1) || In(api.Box{X0: 2, X1: 1, Y1: 9}, 1, 1) || In(api.Box{X1: 9, Y0: 3, Y1: 2}, 2, 2) {
		t.Error("a wrong box has a point")
	}
}

// TestQuarter (P8.1): right of it, above it, both; ErrArg at wrong cells, single points and numbers that are none.
func TestQuarter(t *testing.T) {
	c := api.Cell{X: 8, Y: 16, Level: 3}
	for n, want := range []api.Cell{{X: 8, Y: 16, Level: 2}, {X: 12, Y: 16, Level: 2}, {X: 8, Y: 20, Level: 2}, {X: 12, Y: 20, Level: 2}} {
		if got, e := Quarter(c, n); got != want || e != api.OK {
			t.Errorf("Quarter(%v, %d): %v, %d", c, n, got, e)
		}
	}
	if got, e := Quarter(api.Cell{Level: 31}, 3); got != (api.Cell{X: 1 << 30, Y: 1 << 30, Level: 30}) || e != api.OK {
		t.Error(got, e)
	}
	if got, e := Quarter(api.Cell{X: last - 1, Y: last - 1, Level: 1}, 3); got != (api.Cell{X: last, Y: last}) || e != api.OK {
		t.Error(got, e)
	}
	for _, n := range []int{-1, 4, 5, math.MaxInt, math.MinInt} {
		if got, e := Quarter(c, n); got != (api.Cell{}) || e != api.ErrArg {
			t.Errorf("Quarter(%v, %d): %v, %d", c, n, got, e)
		}
	}
	for _, c := range []api.Cell{{}, {X: 4, Y: 4}, {X: 1, Level: 1}, {Level: 32}, {Level: -1}, {X: 1 << 31, Level: 1}, {Level: math.MinInt}} {
		if got, e := Quarter(c, 1); got != (api.Cell{}) || e != api.ErrArg {
			t.Errorf("Quarter(%v, 1): %v, %d", c, got, e)
		}
	}
}

// TestWhere (P8.1): the chapter's example, each quarter's edges, and ErrArg.
func TestWhere(t *testing.T) {
	for _, c := range []struct {
		cell api.Cell
		x, y uint32
		want int
		e    api.Errno
	}{
		{api.Cell{Level: 2}, 1, 3, 2, api.OK},
		{api.Cell{Level: 2}, 1, 1, 0, api.OK},
		{api.Cell{Level: 2}, 2, 1, 1, api.OK},
		{api.Cell{Level: 2}, 1, 2, 2, api.OK},
		{api.Cell{Level: 2}, 2, 2, 3, api.OK},
		{api.Cell{Level: 2}, 3, 3, 3, api.OK},
		{api.Cell{X: 4, Y: 8, Level: 2}, 7, 9, 1, api.OK},
		{api.Cell{Level: 31}, 1<<30 - 1, 1<<30 - 1, 0, api.OK},
		{api.Cell{Level: 31}, 1 << 30, 0, 1, api.OK},
		{api.Cell{Level: 31}, last, last, 3, api.OK},
		{api.Cell{X: last - 1, Y: last - 1, Level: 1}, last - 1, last, 2, api.OK},
		{api.Cell{Level: 2}, 4, 0, 0, api.ErrArg},
		{api.Cell{Level: 2}, 0, 4, 0, api.ErrArg},
		{api.Cell{X: 4, Level: 2}, 3, 3, 0, api.ErrArg},
		{api.Cell{Level: 31}, 1 << 31, 0, 0, api.ErrArg},
		{api.Cell{Level: 31}, 0, 1 << 31, 0, api.ErrArg},
		{api.Cell{}, 0, 0, 0, api.ErrArg},
		{api.Cell{X: 1, Level: 1}, 1, 0, 0, api.ErrArg},
		{api.Cell{Level: 32}, 1, 3, 0, api.ErrArg},
		{api.Cell{Level: -1}, 0, 0, 0, api.ErrArg},
	} {
		if got, e := Where(c.cell, c.x, c.y); got != c.want || e != c.e {
			t.Errorf("Where(%v, %d, %d): %d, %d", c.cell, c.x, c.y, got, e)
		}
	}
}

// TestLeast (P8.2): the chapter's example, single points, points on both sides of a great line, and ErrArg.
func TestLeast(t *testing.T) {
	for _, c := range []struct {
		x, y, u, v uint32
		want       api.Cell
	}{
		{5, 1, 6, 2, api.Cell{X: 4, Level: 2}},
		{5, 1, 5, 1, api.Cell{X: 5, Y: 1}},
		{last, last, last, last, api.Cell{X: last, Y: last}},
		{5, 1, 5, 0, api.Cell{X: 4, Level: 1}},
		{4, 1, 5, 1, api.Cell{X: 4, Level: 1}},
		{7, 9, 8, 9, api.Cell{Level: 4}},
		{9, 7, 9, 8, api.Cell{Level: 4}},
		{0, 0, last, 0, api.Cell{Level: 31}},
		{5, 1<<30 - 1, 5, 1 << 30, api.Cell{Level: 31}},
		{1 << 30, 1 << 30, last, last, api.Cell{X: 1 << 30, Y: 1 << 30, Level: 30}},
	} {
		if got, e := Least(c.x, c.y, c.u, c.v); got != c.want || e != api.OK {
			t.Errorf("Least(%d, %d, %d, %d): %v, %d", c.x, c.y, c.u, c.v, got, e)
		}
		if got, e := Least(c.u, c.v, c.x, c.y); got != c.want || e != api.OK {
			t.Errorf("Least(%d, %d, %d, %d): %v, %d", c.u, c.v, c.x, c.y, got, e)
		}
	}
	for n := range 4 {
		for _, off := range []uint32{1 << 31, math.MaxUint32} {
			p := [4]uint32{3, 3, 3, 3}
			p[n] = off
			if got, e := Least(p[0], p[1], p[2], p[3]); got != (api.Cell{}) || e != api.ErrArg {
				t.Errorf("Least(%v): %v, %d", p, got, e)
			}
		}
	}
	if got, e := Least(1<<31, 1<<31, 1<<31, 1<<31); got != (api.Cell{}) || e != api.ErrArg {
		t.Error(got, e)
	}
}

// smallCells are all right ones of the 16 by 16 places at the plane's least corner.
func smallCells() []api.Cell {
	var out []api.Cell
	for level := range 5 {
		size := uint32(1) << level
		for x := uint32(0); x < 16; x += size {
			for y := uint32(0); y < 16; y += size {
				out = append(out, api.Cell{X: x, Y: y, Level: level})
			}
		}
	}
	return out
}

// smallBoxes are some boxes of these places.
func smallBoxes() []api.Box {
	var out []api.Box
	at := []uint32{0, 1, 3, 4, 7, 8, 11, 15}
	for _, x0 := range at {
		for _, x1 := range at {
			for _, y0 := range at {
				for _, y1 := range at {
					if x0 <= x1 && y0 <= y1 {
						out = append(out, api.Box{X0: x0, Y0: y0, X1: x1, Y1: y1})
					}
				}
			}
		}
	}
	return out
}

// counted is how many points of c are in b, and how many c has: point by point.
func counted(c api.Cell, b api.Box) (both, all int) {
	size := uint32(1) << c.Level
	for x := c.X; x < c.X+size; x++ {
		for y := c.Y; y < c.Y+size; y++ {
			all++
			if b.X0 <= x && x <= b.X1 && b.Y0 <= y && y <= b.Y1 {
				both++
			}
		}
	}
	return both, all
}

// TestBoxes (P8.2): Touches and Within as the points say it, one by one.
func TestBoxes(t *testing.T) {
	for _, c := range smallCells() {
		for _, b := range smallBoxes() {
			both, all := counted(c, b)
			if got := Touches(c, b); got != (both > 0) {
				t.Fatalf("Touches(%v, %v): %v", c, b, got)
			}
			if got := Within(c, b); got != (both == all) {
				t.Fatalf("Within(%v, %v): %v", c, b, got)
			}
		}
	}
}

// TestBoxesAtEdges (P8.2): the whole plane, its greatest corner, and cells and boxes that are not right.
func TestBoxesAtEdges(t *testing.T) {
	whole, all := api.Cell{Level: 31}, api.Box{X1: last, Y1: last}
	corner := api.Box{X0: last, Y0: last, X1: last, Y1: last}
	for _, c := range []struct {
		cell            api.Cell
		box             api.Box
		touches, within bool
	}{
		{whole, all, true, true},
		{whole, corner, true, false},
		{whole, api.Box{}, true, false},
		{whole, api.Box{X1: last - 1, Y1: last}, true, false},
		{whole, api.Box{X1: last, Y1: last - 1}, true, false},
		{whole, api.Box{X0: 1, X1: last, Y1: last}, true, false},
		{whole, api.Box{Y0: 1, X1: last, Y1: last}, true, false},
		{api.Cell{X: last, Y: last}, corner, true, true},
		{api.Cell{X: last, Y: last}, all, true, true},
		{api.Cell{X: last - 1, Y: last - 1, Level: 1}, corner, true, false},
		{api.Cell{X: 1 << 30, Level: 30}, api.Box{X1: 1<<30 - 1, Y1: last}, false, false},
		{api.Cell{X: 1 << 30, Level: 30}, api.Box{X1: 1 << 30, Y1: last}, true, false},
		{api.Cell{X: 1, Level: 1}, all, false, false},
		{api.Cell{Level: 32}, all, false, false},
		{api.Cell{Level: -1}, all, false, false},
		{api.Cell{X: 1 << 31}, all, false, false},
		{api.Cell{Y: 1 << 31, Level: 31}, all, false, false},
		{api.Cell{X: 1 << 31}, api.Box{X1: math.MaxUint32, Y1: math.MaxUint32}, false, false},
		{api.Cell{}, api.Box{X1: 1 << 31, Y1: 3}, false, false},
		{api.Cell{}, api.Box{X1: 3, Y1: math.MaxUint32}, false, false},
		{whole, api.Box{X0: 2, X1: 1, Y1: 9}, false, false},
		{whole, api.Box{Y0: 2, X1: 9, Y1: 1}, false, false},
	} {
		if got := Touches(c.cell, c.box); got != c.touches {
			t.Errorf("Touches(%v, %v): %v", c.cell, c.box, got)
		}
		if got := Within(c.cell, c.box); got != c.within {
			t.Errorf("Within(%v, %v): %v", c.cell, c.box, got)
		}
	}
}

// TestFar (P8.2): the chapter's example, all sides of a cell, the plane's width, and ErrArg.
func TestFar(t *testing.T) {
	const width = uint64(last)
	for _, c := range []struct {
		cell api.Cell
		x, y uint32
		want uint64
		e    api.Errno
	}{
		{api.Cell{X: 4, Level: 2}, 1, 5, 13, api.OK},
		{api.Cell{X: 4, Level: 2}, 5, 2, 0, api.OK},
		{api.Cell{X: 4, Level: 2}, 4, 0, 0, api.OK},
		{api.Cell{X: 4, Level: 2}, 7, 3, 0, api.OK},
		{api.Cell{X: 4, Level: 2}, 8, 3, 1, api.OK},
		{api.Cell{X: 4, Level: 2}, 9, 1, 4, api.OK},
		{api.Cell{X: 4, Level: 2}, 6, 8, 25, api.OK},
		{api.Cell{X: 4, Y: 4, Level: 2}, 1, 2, 13, api.OK},
		{api.Cell{X: 4, Y: 4, Level: 2}, 10, 11, 25, api.OK},
		{api.Cell{X: last, Y: last}, 0, 0, 2 * width * width, api.OK},
		{api.Cell{}, last, last, 2 * width * width, api.OK},
		{api.Cell{}, last, 0, width * width, api.OK},
		{api.Cell{Level: 31}, last, last, 0, api.OK},
		{api.Cell{X: 1 << 30, Y: 1 << 30, Level: 30}, 0, last, 1 << 60, api.OK},
		{api.Cell{Level: 31}, 1 << 31, 0, 0, api.ErrArg},
		{api.Cell{}, 0, 1 << 31, 0, api.ErrArg},
		{api.Cell{}, math.MaxUint32, math.MaxUint32, 0, api.ErrArg},
		{api.Cell{X: 1, Level: 1}, 5, 5, 0, api.ErrArg},
		{api.Cell{Level: 32}, 5, 5, 0, api.ErrArg},
		{api.Cell{Level: -1}, 5, 5, 0, api.ErrArg},
		{api.Cell{X: 1 << 31}, 5, 5, 0, api.ErrArg},
	} {
		if got, e := Far(c.cell, c.x, c.y); got != c.want || e != c.e {
			t.Errorf("Far(%v, %d, %d): %d, %d", c.cell, c.x, c.y, got, e)
		}
	}
}

// TestFarPointByPoint (P8.2): no point of the cell is nearer, and one is as near.
func TestFarPointByPoint(t *testing.T) {
	for _, c := range smallCells() {
		for _, p := range [][2]uint32{{0, 0}, {5, 9}, {15, 2}, {8, 7}, {16, 20}} {
			size, want := uint32(1)<<c.Level, uint64(math.MaxUint64)
			for x := c.X; x < c.X+size; x++ {
				for y := c.Y; y < c.Y+size; y++ {
					dx, dy := int64(x)-int64(p[0]), int64(y)-int64(p[1])
					want = min(want, uint64(dx*dx+dy*dy))
				}
			}
			if got, e := Far(c, p[0], p[1]); got != want || e != api.OK {
				t.Fatalf("Far(%v, %v): %d, %d, not %d", c, p, got, e, want)
			}
		}
	}
}

// place is one of the plane, near its edges and near great lines more often than not.
func place(r *rand.Rand) uint32 {
	switch r.Intn(4) {
	case 0:
		return uint32(r.Intn(8))
	case 1:
		return last - uint32(r.Intn(8))
	case 2:
		return uint32(1)<<r.Intn(31) - uint32(r.Intn(2))
	}
	return uint32(r.Intn(api.MaxPlace))
}

// holders are the numbers of the quarters of c that have x, y.
func holders(t *testing.T, c api.Cell, x, y uint32) []int {
	t.Helper()
	var out []int
	for n := range 4 {
		q, e := Quarter(c, n)
		if e != api.OK || !Right(q) || q.Level != c.Level-1 {
			t.Fatalf("Quarter(%v, %d): %v, %d", c, n, q, e)
		}
		if Has(q, x, y) {
			out = append(out, n)
		}
	}
	return out
}

// TestQuartersShareOut (P8.3): a cell's point is in one quarter, which Where names, and another point in none.
func TestQuartersShareOut(t *testing.T) {
	r := rand.New(rand.NewSource(8))
	for range 20000 {
		x, y, level := place(r), place(r), 1+r.Intn(31)
		inside := uint32(1)<<level - 1
		c := api.Cell{X: x &^ inside, Y: y &^ inside, Level: level}
		got := holders(t, c, x, y)
		if n, e := Where(c, x, y); len(got) != 1 || got[0] != n || e != api.OK {
			t.Fatalf("%d, %d of %v: %v, Where %d, %d", x, y, c, got, n, e)
		}
		u, v := place(r), place(r)
		if got := holders(t, c, u, v); (len(got) == 1) != Has(c, u, v) || len(got) > 1 {
			t.Fatalf("%d, %d of %v: %v", u, v, c, got)
		}
	}
}

// TestLeastIsLeast (P8.2, P8.3): it has both points, and, where they differ, a quarter for each: so no less a cell has both.
func TestLeastIsLeast(t *testing.T) {
	r := rand.New(rand.NewSource(9))
	for range 20000 {
		x, y, u, v := place(r), place(r), place(r), place(r)
		c, e := Least(x, y, u, v)
		if e != api.OK || !Right(c) || !Has(c, x, y) || !Has(c, u, v) {
			t.Fatalf("Least(%d, %d, %d, %d): %v, %d", x, y, u, v, c, e)
		}
		if x == u && y == v {
			if c != (api.Cell{X: x, Y: y}) {
				t.Fatalf("Least(%d, %d, %d, %d): %v", x, y, u, v, c)
			}
			continue
		}
		n, e1 := Where(c, x, y)
		m, e2 := Where(c, u, v)
		if n == m || e1 != api.OK || e2 != api.OK {
			t.Fatalf("Least(%d, %d, %d, %d): %v, both in its quarter %d", x, y, u, v, c, n)
		}
	}
}
