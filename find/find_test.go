package find

import (
	"cmp"
	"math"
	"math/rand"
	"reflect"
	"slices"
	"strings"
	"testing"

	"sphragis/api"
)

const last = api.MaxPlace - 1 // the plane's greatest place

// line are rows at 1, 0; 2, 0; 3, 0 .. with the Ids 1, 2, 3 ..
func line(count int) []api.Row {
	var out []api.Row
	for i := range count {
		out = append(out, api.Row{Id: uint64(i + 1), X: uint32(i + 1)})
	}
	return out
}

// ids are those of rows.
func ids(l []api.Row) []uint64 {
	var out []uint64
	for _, r := range l {
		out = append(out, r.Id)
	}
	return out
}

// place is one of the plane: among few ones, near its far edge, or anywhere.
func place(r *rand.Rand) uint32 {
	switch r.Intn(4) {
	case 0:
		return last - uint32(r.Intn(8))
	case 1:
		return uint32(r.Intn(api.MaxPlace))
	}
	return uint32(r.Intn(12))
}

// someRows are right ones, by chance.
func someRows(r *rand.Rand, most int) []api.Row {
	var out []api.Row
	id := uint64(r.Intn(3))
	for range r.Intn(most + 1) {
		out = append(out, api.Row{Id: id, X: place(r), Y: place(r), Val: strings.Repeat("v", r.Intn(17))})
		id += 1 + uint64(r.Intn(4))
	}
	return out
}

// someQuery is a right one of that kind, by chance; what the kind does not use is anything.
func someQuery(r *rand.Rand, kind, most int) api.Query {
	a, b, c, d := place(r), place(r), place(r), place(r)
	q := api.Query{
		Kind: kind, Box: api.Box{X0: min(a, b), Y0: min(c, d), X1: max(a, b), Y1: max(c, d)}, X: a, Y: c,
		Square: []uint64{0, 1, 9, 40, 1 << 62, math.MaxUint64}[r.Intn(6)],
		K:      1 + r.Intn(min(most+3, api.MaxGiven)), After: uint64(r.Intn(3 * (most + 1))), From: r.Intn(2) == 0,
	}
	if kind != api.QWindow && r.Intn(2) == 0 {
		q.Box = api.Box{X0: 9, X1: 3, Y1: math.MaxUint32}
	}
	if kind != api.QRound && kind != api.QNear && r.Intn(2) == 0 {
		q.X, q.Y = math.MaxUint32, api.MaxPlace
	}
	return q
}

// squared is how far a row is.
func squared(r api.Row, x, y uint32) uint64 {
	dx, dy := uint64(max(r.X, x)-min(r.X, x)), uint64(max(r.Y, y)-min(r.Y, y))
	return dx*dx + dy*dy
}

// wanted are the rows that q asks for, one by one, without a tree.
func wanted(l []api.Row, q api.Query) []api.Row {
	var out []api.Row
	for _, r := range l {
		in := true
		switch q.Kind {
		case api.QWindow:
			in = q.Box.X0 <= r.X && r.X <= q.Box.X1 && q.Box.Y0 <= r.Y && r.Y <= q.Box.Y1
		case api.QRound:
			in = squared(r, q.X, q.Y) <= q.Square
		}
		if q.Kind != api.QNear && q.From && r.Id <= q.After {
			in = false
		}
		if in {
			out = append(out, r)
		}
	}
	if q.Kind == api.QNear {
		slices.SortStableFunc(out, func(a, b api.Row) int {
			return cmp.Or(cmp.Compare(squared(a, q.X, q.Y), squared(b, q.X, q.Y)), cmp.Compare(a.Id, b.Id))
		})
	}
	return out
}

// questions calls body with many lists of rows, great ones too, and right queries of each kind.
func questions(seed int64, body func(r *rand.Rand, l []api.Row, q api.Query)) {
	r := rand.New(rand.NewSource(seed))
	for i := range 400 {
		most := 12
		if i%50 == 0 {
			most = api.MaxRows
		}
		l := someRows(r, most)
		for kind := api.QWindow; kind <= api.QScan; kind++ {
			body(r, l, someQuery(r, kind, len(l)))
		}
	}
}

// kindOf is a right query of that kind.
func kindOf(kind int) api.Query {
	return api.Query{Kind: kind, K: 1}
}

// TestCheckKind (P11.1): kinds are 1 to 4, whatever else is wrong.
func TestCheckKind(t *testing.T) {
	for _, kind := range []int{math.MinInt, -1, 0, 5, 6, 256 + 1, 1<<32 + 1, math.MaxInt} {
		for _, k := range []int{-1, 0, 1, 65} {
			if e := Check(api.Query{Kind: kind, K: k, Box: api.Box{X0: 1}, X: api.MaxPlace}); e != api.ErrArg {
				t.Errorf("a query of kind %d and K %d: %d", kind, k, e)
			}
		}
	}
	for kind := 1; kind <= 4; kind++ {
		if e := Check(kindOf(kind)); e != api.OK {
			t.Errorf("a query of kind %d: %d", kind, e)
		}
	}
}

// TestCheckMany (P11.1): K is 1 to 64, of QNear 0 to 64; that is told ahead of a wrong place.
func TestCheckMany(t *testing.T) {
	for kind := 1; kind <= 4; kind++ {
		for _, k := range []int{math.MinInt, -1, 0, 1, 2, 63, 64, 65, 1 << 32, 1<<32 + 1, math.MaxInt} {
			q := kindOf(kind)
			q.K = k
			want := api.OK
			if k < 0 || k > 64 || k == 0 && kind != api.QNear {
				want = api.ErrMany
			}
			if e := Check(q); e != want {
				t.Errorf("a query of kind %d and K %d: %d, not %d", kind, k, e, want)
			}
			q.Box, q.X, q.Y = api.Box{X0: 1}, api.MaxPlace, api.MaxPlace
			if e := Check(q); want == api.ErrMany && e != want {
				t.Errorf("a query of kind %d and K %d at no place: %d, not %d", kind, k, e, want)
			}
		}
	}
}

// TestCheckPlace (P11.1): a window's box is right, the point of QRound and QNear is of the plane; to other kinds both may be anything.
func TestCheckPlace(t *testing.T) {
	for _, c := range []struct {
		box  api.Box
		x, y uint32
		errs [4]api.Errno // of the kinds, in order
	}{
		{errs: [4]api.Errno{}},
		{box: api.Box{X0: last, Y0: last, X1: last, Y1: last}, x: last, y: last},
		{box: api.Box{X1: last, Y1: last}, x: last},
		{box: api.Box{X0: 1}, errs: [4]api.Errno{api.ErrBox, 0, 0, 0}},
		{box: api.Box{X0: 2, X1: 1, Y1: 9}, errs: [4]api.Errno{api.ErrBox, 0, 0, 0}},
		{box: api.Box{Y0: 2, X1: 9, Y1: 1}, errs: [4]api.Errno{api.ErrBox, 0, 0, 0}},
		{box: api.Box{X1: api.MaxPlace}, errs: [4]api.Errno{api.ErrBox, 0, 0, 0}},
		{box: api.Box{Y1: math.MaxUint32}, errs: [4]api.Errno{api.ErrBox, 0, 0, 0}},
		{x: api.MaxPlace, errs: [4]api.Errno{0, api.ErrArg, api.ErrArg, 0}},
		{y: api.MaxPlace, errs: [4]api.Errno{0, api.ErrArg, api.ErrArg, 0}},
		{x: math.MaxUint32, y: math.MaxUint32, errs: [4]api.Errno{0, api.ErrArg, api.ErrArg, 0}},
		{box: api.Box{Y0: 1}, y: math.MaxUint32, errs: [4]api.Errno{api.ErrBox, api.ErrArg, api.ErrArg, 0}},
	} {
		for i, want := range c.errs {
			for _, from := range []bool{false, true} {
				q := api.Query{Kind: i + 1, Box: c.box, X: c.x, Y: c.y, K: 64, Square: math.MaxUint64, From: from, After: math.MaxUint64}
				if e := Check(q); e != want {
					t.Errorf("%+v: %d, not %d", q, e, want)
				}
			}
		}
	}
}

// TestAskExample (P11.2): the chapter's example.
func TestAskExample(t *testing.T) {
	q := api.Query{Kind: api.QScan, K: 2}
	if got, more, e := Ask(line(3), q); !slices.Equal(ids(got), []uint64{1, 2}) || !more || e != api.OK {
		t.Error(got, more, e)
	}
	q.From, q.After = true, 2
	if got, more, e := Ask(line(3), q); !slices.Equal(ids(got), []uint64{3}) || more || e != api.OK {
		t.Error(got, more, e)
	}
}

// TestAsk (P11.2): the first K rows of those that are asked for, and whether there are more, against rows taken one by one.
func TestAsk(t *testing.T) {
	questions(1, func(r *rand.Rand, l []api.Row, q api.Query) {
		want := wanted(l, q)
		for _, k := range []int{q.K, len(want) - 1, len(want), len(want) + 1, 0} {
			if q.K = k; Check(q) != api.OK {
				continue
			}
			got, more, e := Ask(l, q)
			if first := want[:min(k, len(want))]; !slices.Equal(got, first) || more != (len(want) > k) || e != api.OK {
				t.Fatalf("%+v of %v: %v, %v, %d, not %v", q, ids(l), ids(got), more, e, ids(first))
			}
		}
	})
}

// TestAskBehind (P11.2): After counts only with From, and is itself not asked for; QNear does not care for either.
func TestAskBehind(t *testing.T) {
	l := []api.Row{{Id: 0, X: 3}, {Id: 4, X: 2}, {Id: math.MaxUint64, X: 1}}
	box := api.Box{X1: 9, Y1: 9}
	for _, c := range []struct {
		after uint64
		from  bool
		want  []uint64
	}{
		{after: 4, from: false, want: []uint64{0, 4, math.MaxUint64}},
		{after: math.MaxUint64, from: false, want: []uint64{0, 4, math.MaxUint64}},
		{after: 0, from: true, want: []uint64{4, math.MaxUint64}},
		{after: 3, from: true, want: []uint64{4, math.MaxUint64}},
		{after: 4, from: true, want: []uint64{math.MaxUint64}},
		{after: math.MaxUint64 - 1, from: true, want: []uint64{math.MaxUint64}},
		{after: math.MaxUint64, from: true, want: nil},
	} {
		for _, kind := range []int{api.QWindow, api.QRound, api.QScan} {
			q := api.Query{Kind: kind, Box: box, Square: 9, K: 64, After: c.after, From: c.from}
			if got, more, e := Ask(l, q); !slices.Equal(ids(got), c.want) || more || e != api.OK {
				t.Errorf("%+v: %v, %v, %d, not %v", q, ids(got), more, e, c.want)
			}
		}
		q := api.Query{Kind: api.QNear, K: 2, After: c.after, From: c.from}
		if got, more, e := Ask(l, q); !slices.Equal(ids(got), []uint64{math.MaxUint64, 4}) || !more || e != api.OK {
			t.Errorf("%+v: %v, %v, %d", q, ids(got), more, e)
		}
	}
}

// TestAskNear (P11.2): of rows that are as far the lesser Ids come ahead; K 0 gives none, and tells whether there are any.
func TestAskNear(t *testing.T) {
	l := []api.Row{{Id: 1, X: 9}, {Id: 2, X: 4, Y: 5}, {Id: 3, X: 5, Y: 4}, {Id: 4, X: 5, Y: 5}, {Id: 5, X: 6, Y: 5}}
	q := api.Query{Kind: api.QNear, X: 5, Y: 5, K: 3}
	if got, more, e := Ask(l, q); !slices.Equal(ids(got), []uint64{4, 2, 3}) || !more || e != api.OK {
		t.Error(ids(got), more, e)
	}
	q.K = 0
	if got, more, e := Ask(l, q); len(got) != 0 || !more || e != api.OK {
		t.Error(got, more, e)
	}
	if got, more, e := Ask(nil, q); len(got) != 0 || more || e != api.OK {
		t.Error(got, more, e)
	}
}

// TestAskOfNone (P11.2, R3): of no rows, nil or empty, nothing is given, and there is no more.
func TestAskOfNone(t *testing.T) {
	for kind := 1; kind <= 4; kind++ {
		for _, none := range [][]api.Row{nil, {}, make([]api.Row, 0, 5)} {
			if got, more, e := Ask(none, kindOf(kind)); len(got) != 0 || more || e != api.OK {
				t.Error(kind, got, more, e)
			}
		}
	}
}

// TestAskGreatest (P11.2): of as many rows as there may be, as many as are given at once.
func TestAskGreatest(t *testing.T) {
	l := line(api.MaxRows)
	for kind := 1; kind <= 4; kind++ {
		q := api.Query{Kind: kind, Box: api.Box{X1: last, Y1: last}, Square: math.MaxUint64, K: api.MaxGiven}
		if got, more, e := Ask(l, q); !slices.Equal(got, l[:64]) || !more || e != api.OK {
			t.Error(kind, len(got), more, e)
		}
	}
	q := api.Query{Kind: api.QNear, X: last, Y: last, K: 1}
	if got, more, e := Ask(l, q); len(got) != 1 || got[0].Id != 1000 || !more || e != api.OK {
		t.Error(got, more, e)
	}
}

// wrongRows are lists that are not right, each in one way.
func wrongRows() map[string][]api.Row {
	return map[string][]api.Row{
		"too many":      line(api.MaxRows + 1),
		"a far place":   {{Id: 1}, {Id: 2, X: api.MaxPlace}},
		"a high place":  {{Id: 1, Y: math.MaxUint32}},
		"a long value":  {{Id: 1, Val: strings.Repeat("v", 17)}},
		"one Id twice":  {{Id: 1}, {Id: 1, X: 2}},
		"Ids that fall": {{Id: 2}, {Id: 1}},
	}
}

// TestAskErrors (P11.2, R1, R2): wrong rows are told ahead of a wrong query; nothing stands beside an error.
func TestAskErrors(t *testing.T) {
	wrong := map[api.Errno][]api.Query{
		api.OK:      {kindOf(1), kindOf(2), kindOf(3), kindOf(4)},
		api.ErrArg:  {{K: 1}, {Kind: 5, K: 1}, {Kind: -1}, {Kind: api.QRound, K: 1, X: api.MaxPlace}, {Kind: api.QNear, Y: api.MaxPlace}},
		api.ErrMany: {{Kind: api.QWindow}, {Kind: api.QRound, K: 65}, {Kind: api.QNear, K: -1}, {Kind: api.QScan}},
		api.ErrBox:  {{Kind: api.QWindow, K: 1, Box: api.Box{Y0: 1}}},
	}
	for want, list := range wrong {
		for _, q := range list {
			if got, more, e := Ask(line(5), q); e != want || e != api.OK && (len(got) != 0 || more) {
				t.Errorf("%+v: %v, %v, %d, not %d", q, got, more, e, want)
			}
			for what, l := range wrongRows() {
				if got, more, e := Ask(l, q); e != api.ErrRow || len(got) != 0 || more {
					t.Errorf("%s, %+v: %v, %v, %d", what, q, got, more, e)
				}
			}
		}
	}
}

// TestAllTimes (P11.2): so many pieces as most says, and no more than there are.
func TestAllTimes(t *testing.T) {
	for _, c := range []struct{ rows, k, most, want int }{
		{0, 1, 0, 0}, {0, 1, 9, 0}, {3, 1, 0, 0}, {3, 1, 1, 1}, {3, 1, 2, 2}, {3, 1, 3, 3}, {3, 1, 4, 3},
		{3, 2, 1, 2}, {3, 2, 2, 3}, {3, 3, 1, 3}, {3, 64, 1, 3}, {3, 64, 0, 0}, {4, 2, 2, 4}, {4, 2, 3, 4},
		{1000, 1, math.MaxInt, 1000}, {1000, 1, 999, 999}, {1000, 64, 15, 960}, {1000, 64, 16, 1000}, {1000, 64, math.MaxInt, 1000},
	} {
		l := line(c.rows)
		if got, e := All(l, api.Query{Kind: api.QScan, K: c.k}, c.most); !slices.Equal(got, l[:c.want]) || e != api.OK {
			t.Errorf("%+v: %v, %d", c, ids(got), e)
		}
	}
}

// TestAllBehind (P11.2): the first piece is the query's own, behind After if From holds.
func TestAllBehind(t *testing.T) {
	q := api.Query{Kind: api.QScan, K: 2, From: true, After: 3}
	if got, e := All(line(9), q, 2); !slices.Equal(ids(got), []uint64{4, 5, 6, 7}) || e != api.OK {
		t.Error(ids(got), e)
	}
	q.From = false
	if got, e := All(line(9), q, 2); !slices.Equal(ids(got), []uint64{1, 2, 3, 4}) || e != api.OK {
		t.Error(ids(got), e)
	}
	q = api.Query{Kind: api.QWindow, Box: api.Box{X0: 3, X1: 7}, K: 2, From: true, After: 4}
	if got, e := All(line(9), q, 9); !slices.Equal(ids(got), []uint64{5, 6, 7}) || e != api.OK {
		t.Error(ids(got), e)
	}
	ends := []api.Row{{Id: math.MaxUint64 - 1}, {Id: math.MaxUint64}}
	if got, e := All(ends, api.Query{Kind: api.QRound, K: 1}, 9); !slices.Equal(got, ends) || e != api.OK {
		t.Error(ids(got), e)
	}
}

// TestAllErrors (P11.2, R1, R2): QNear, or a number below 0, is told ahead of wrong rows, those ahead of a wrong query, even if no piece is asked for.
func TestAllErrors(t *testing.T) {
	none := func(what string, want api.Errno, l []api.Row, q api.Query, most int) {
		t.Helper()
		if got, e := All(l, q, most); len(got) != 0 || e != want {
			t.Errorf("%s, %+v, %d: %v, %d, not %d", what, q, most, got, e, want)
		}
	}
	lists := wrongRows()
	lists["right"] = line(5)
	for what, l := range lists {
		for _, most := range []int{0, 1, math.MaxInt} {
			none(what, api.ErrArg, l, kindOf(api.QNear), most)
			none(what, api.ErrArg, l, api.Query{Kind: api.QNear, K: 65, X: api.MaxPlace}, most)
		}
		for _, most := range []int{-1, math.MinInt} {
			none(what, api.ErrArg, l, kindOf(api.QScan), most)
			none(what, api.ErrArg, l, api.Query{Kind: api.QScan, K: 65}, most)
			none(what, api.ErrArg, l, api.Query{Kind: api.QWindow, K: 1, Box: api.Box{X0: 1}}, most)
		}
	}
	for what, l := range wrongRows() {
		none(what, api.ErrRow, l, kindOf(api.QScan), 0)
		none(what, api.ErrRow, l, api.Query{Kind: 9}, 1)
		none(what, api.ErrRow, l, api.Query{Kind: api.QWindow, Box: api.Box{X0: 1}}, 1)
	}
	for _, most := range []int{0, 1, 9} {
		none("right", api.ErrArg, line(5), api.Query{Kind: 5, K: 1}, most)
		none("right", api.ErrArg, line(5), api.Query{Kind: api.QRound, K: 1, Y: api.MaxPlace}, most)
		none("right", api.ErrMany, line(5), api.Query{Kind: api.QScan}, most)
		none("right", api.ErrMany, line(5), api.Query{Kind: api.QRound, K: 65, X: api.MaxPlace}, most)
		none("right", api.ErrBox, line(5), api.Query{Kind: api.QWindow, K: 1, Box: api.Box{X0: 1}}, most)
		none("right", api.ErrMany, nil, api.Query{Kind: api.QScan, K: -1}, most)
	}
}

// byHand is what All should give, by one Ask behind the other.
func byHand(t *testing.T, l []api.Row, q api.Query, most int) []api.Row {
	t.Helper()
	var out []api.Row
	for range most {
		got, more, e := Ask(l, q)
		if e != api.OK || more && len(got) != q.K {
			t.Fatalf("%+v: %v, %v, %d", q, ids(got), more, e)
		}
		out = append(out, got...)
		if !more {
			break
		}
		q.From, q.After = true, got[len(got)-1].Id
	}
	return out
}

// TestPieces (P11.2, P11.3): in pieces of whatever size the same rows come as at once; All gives what one Ask behind the other gives.
func TestPieces(t *testing.T) {
	questions(2, func(r *rand.Rand, l []api.Row, q api.Query) {
		if q.Kind == api.QNear {
			return
		}
		want := wanted(l, q)
		for _, k := range []int{1, 2, 3, q.K, 64} {
			q.K = k
			if got, e := All(l, q, math.MaxInt); !slices.Equal(got, want) || e != api.OK {
				t.Fatalf("%+v: %v, %d, not %v", q, ids(got), e, ids(want))
			}
			most := r.Intn(6)
			if got, e := All(l, q, most); !slices.Equal(got, byHand(t, l, q, most)) || e != api.OK {
				t.Fatalf("%+v, %d: %v, %d", q, most, ids(got), e)
			}
			if len(l) < 50 {
				if got := byHand(t, l, q, len(l)+1); !slices.Equal(got, want) {
					t.Fatalf("%+v: %v, not %v", q, ids(got), ids(want))
				}
			}
		}
	})
}

// TestUnlikeSizes (P11.3): pieces may be of one size now and of another then.
func TestUnlikeSizes(t *testing.T) {
	questions(3, func(r *rand.Rand, l []api.Row, q api.Query) {
		if q.Kind == api.QNear {
			return
		}
		want := wanted(l, q)
		var all []api.Row
		for more := true; more; {
			q.K = 1 + r.Intn(api.MaxGiven)
			got, goOn, e := Ask(l, q)
			if e != api.OK {
				t.Fatal(q, e)
			}
			all, more = append(all, got...), goOn
			if more {
				q.From, q.After = true, got[len(got)-1].Id
			}
		}
		if !slices.Equal(all, want) {
			t.Fatalf("%+v: %v, not %v", q, ids(all), ids(want))
		}
	})
}

// TestMemory (R3): lists that are handed in stay as they are, their spare room too; what is answered is new, its spare room too.
func TestMemory(t *testing.T) {
	questions(4, func(r *rand.Rand, l []api.Row, q api.Query) {
		room := append(slices.Clone(l), api.Row{Id: 7, Val: "room"}, api.Row{Id: 8, Val: "room"})
		was := slices.Clone(room)
		handed := room[:len(l)]
		once, _, _ := Ask(handed, q)
		twice, _, _ := Ask(handed, q)
		all, _ := All(handed, q, 3)
		kept := slices.Clone(twice)
		spoil(once)
		spoil(all)
		if !reflect.DeepEqual(room, was) {
			t.Fatalf("%+v: what was handed in is not as it was", q)
		}
		spoil(handed)
		if !slices.Equal(twice, kept) {
			t.Fatalf("%+v: an answer is not as it was", q)
		}
	})
}

// spoil writes into all of a list, its spare room too.
func spoil(l []api.Row) {
	l = l[:cap(l)]
	for i := range l {
		l[i] = api.Row{Id: 99, X: 99, Y: 99, Val: "spoilt"}
	}
}

// TestSame (R4): the same question is answered the same again, whatever was asked in between.
func TestSame(t *testing.T) {
	questions(5, func(r *rand.Rand, l []api.Row, q api.Query) {
		a, more, e := Ask(l, q)
		Check(api.Query{Kind: 9})
		All(l, kindOf(api.QScan), 2)
		b, still, f := Ask(l, q)
		if !slices.Equal(a, b) || more != still || e != f {
			t.Fatalf("%+v: %v and %v", q, ids(a), ids(b))
		}
	})
}
