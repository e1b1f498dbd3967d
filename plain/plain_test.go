package plain

import (
	"math"
	"math/rand"
	"reflect"
	"slices"
	"strings"
	"testing"

	"sphragis/api"
	"sphragis/quad"
)

const last = api.MaxPlace - 1 // the plane's greatest place

var long = strings.Repeat("v", api.MaxVal+1) // a value that no row has

func put(id uint64, x, y uint32, val string) api.Op {
	return api.Op{Kind: api.OPut, Row: api.Row{Id: id, X: x, Y: y, Val: val}}
}

func move(id uint64, x, y uint32) api.Op {
	return api.Op{Kind: api.OMove, Row: api.Row{Id: id, X: x, Y: y}}
}

func drop(id uint64) api.Op {
	return api.Op{Kind: api.ODelete, Row: api.Row{Id: id}}
}

// line are so many rows of the Ids 10, 20, 30 ..
func line(count int) []api.Row {
	var out []api.Row
	for i := range count {
		out = append(out, api.Row{Id: uint64(i+1) * 10, X: uint32(i), Y: 7, Val: "v"})
	}
	return out
}

// wrongLists are rows that are not right, each in another way.
func wrongLists() map[string][]api.Row {
	return map[string][]api.Row{
		"falling Ids": {{Id: 2}, {Id: 1}},
		"an Id twice": {{Id: 1}, {Id: 1}},
		"off in X":    {{Id: 1}, {Id: 2, X: api.MaxPlace}},
		"off in Y":    {{Id: 1, Y: math.MaxUint32}},
		"a long Val":  {{Id: 1, Val: long}},
		"too many":    line(api.MaxRows + 1),
	}
}

// same tells whether two lists have the same rows; nil and empty are one.
func same(a, b []api.Row) bool { return slices.Equal(a, b) }

// kept are rows by their Ids: the second way that changes are done here.
type kept map[uint64]api.Row

func keep(l []api.Row) kept {
	out := kept{}
	for _, r := range l {
		out[r.Id] = r
	}
	return out
}

func (k kept) rows() []api.Row {
	var out []api.Row
	for _, r := range k {
		out = append(out, r)
	}
	slices.SortFunc(out, func(a, b api.Row) int {
		if a.Id < b.Id {
			return -1
		}
		return 1
	})
	return out
}

// change does o, and tells what is wrong with it.
func (k kept) change(o api.Op) api.Errno {
	r, there := k[o.Row.Id]
	off := o.Row.X > last || o.Row.Y > last
	switch {
	case o.Kind < api.OPut || o.Kind > api.ODelete:
		return api.ErrArg
	case o.Kind == api.OPut && (off || len(o.Row.Val) > api.MaxVal), o.Kind == api.OMove && off:
		return api.ErrRow
	case o.Kind != api.OPut && !there:
		return api.ErrNone
	case o.Kind == api.OPut && !there && len(k) >= api.MaxRows:
		return api.ErrMany
	case o.Kind == api.OPut:
		k[o.Row.Id] = o.Row
	case o.Kind == api.OMove:
		r.X, r.Y = o.Row.X, o.Row.Y
		k[o.Row.Id] = r
	default:
		delete(k, o.Row.Id)
	}
	return api.OK
}

// someId is one of few, or an end of all.
func someId(r *rand.Rand, most int) uint64 {
	switch r.Intn(12) {
	case 0:
		return math.MaxUint64 - uint64(r.Intn(2))
	case 1:
		return 0
	}
	return uint64(r.Intn(most))
}

func somePlace(r *rand.Rand) uint32 {
	return []uint32{0, 1, 5, last, last - 1, uint32(r.Intn(api.MaxPlace))}[r.Intn(6)]
}

// someOp is a change, by chance: one of so many as wrong says is of a wrong kind, or has a wrong row.
func someOp(r *rand.Rand, ids, wrong int) api.Op {
	o := api.Op{Kind: 1 + r.Intn(3), Row: api.Row{Id: someId(r, ids), X: somePlace(r), Y: somePlace(r), Val: strings.Repeat("w", r.Intn(api.MaxVal+1))}}
	if o.Kind == api.OMove && r.Intn(2) == 0 {
		o.Row.Val = long
	}
	if o.Kind == api.ODelete && r.Intn(2) == 0 {
		o.Row.X, o.Row.Y, o.Row.Val = api.MaxPlace, math.MaxUint32, long
	}
	if wrong == 0 || r.Intn(wrong) != 0 {
		return o
	}
	switch r.Intn(4) {
	case 0:
		o.Kind = []int{0, 4, -1, math.MinInt, math.MaxInt}[r.Intn(5)]
	case 1:
		o.Row.X = api.MaxPlace
	case 2:
		o.Row.Y = math.MaxUint32
	default:
		o.Row.Val = long
	}
	return o
}

func someRows(r *rand.Rand, ids int) []api.Row {
	k := kept{}
	for range r.Intn(ids + 1) {
		id := someId(r, ids)
		k[id] = api.Row{Id: id, X: somePlace(r), Y: somePlace(r), Val: strings.Repeat("v", r.Intn(api.MaxVal+1))}
	}
	return k.rows()
}

// TestGet (P12.1): the row of an Id, at the ends and between; ErrNone, if there is none.
func TestGet(t *testing.T) {
	l := []api.Row{{Id: 0, X: 3}, {Id: 4, Y: last, Val: "four"}, {Id: math.MaxUint64, X: last, Val: strings.Repeat("m", api.MaxVal)}}
	for _, r := range l {
		if got, e := Get(l, r.Id); got != r || e != api.OK {
			t.Error(r.Id, got, e)
		}
	}
	for _, id := range []uint64{1, 3, 5, math.MaxUint64 - 1} {
		if got, e := Get(l, id); got != (api.Row{}) || e != api.ErrNone {
			t.Error(id, got, e)
		}
	}
	for _, none := range [][]api.Row{nil, {}} {
		if got, e := Get(none, 0); got != (api.Row{}) || e != api.ErrNone {
			t.Error(got, e)
		}
	}
	full := line(api.MaxRows)
	for _, r := range full {
		if got, e := Get(full, r.Id); got != r || e != api.OK {
			t.Error(r.Id, got, e)
		}
		if got, e := Get(full, r.Id+1); got != (api.Row{}) || e != api.ErrNone {
			t.Error(r.Id+1, got, e)
		}
	}
}

// TestWrongRows (P12.1, P12.2, R1, R2): rows that are not right are told ahead of all else, with zero results.
func TestWrongRows(t *testing.T) {
	for what, l := range wrongLists() {
		if got, e := Get(l, 1); got != (api.Row{}) || e != api.ErrRow {
			t.Error(what, got, e)
		}
		if got, e := Get(l, 77777); got != (api.Row{}) || e != api.ErrRow {
			t.Error(what, got, e)
		}
		for _, o := range []api.Op{put(1, 1, 1, ""), move(1, 1, 1), move(77777, 1, 1), drop(1), drop(77777), {}, put(1, api.MaxPlace, 0, long)} {
			if got, e := Apply(l, o); len(got) != 0 || e != api.ErrRow {
				t.Error(what, o, got, e)
			}
			if got, at, e := Batch(l, []api.Op{put(1, 1, 1, ""), o}); len(got) != 0 || at != 0 || e != api.ErrRow {
				t.Error(what, o, got, at, e)
			}
		}
		for _, count := range []int{0, api.MaxBatch + 1} {
			if got, at, e := Batch(l, make([]api.Op, count)); len(got) != 0 || at != 0 || e != api.ErrRow {
				t.Error(what, count, got, at, e)
			}
		}
	}
}

// TestPut (P12.1): a row comes to where its Id stands, or in the place of the one of its Id.
func TestPut(t *testing.T) {
	a, b, c := api.Row{Id: 2, X: 1, Val: "a"}, api.Row{Id: 5, Y: 2, Val: "b"}, api.Row{Id: 9, X: 3, Y: 3}
	l := []api.Row{a, b, c}
	for _, want := range []struct {
		row  api.Row
		rows func(r api.Row) []api.Row
	}{
		{api.Row{Id: 0, Val: "n"}, func(r api.Row) []api.Row { return []api.Row{r, a, b, c} }},
		{api.Row{Id: 2, Y: last}, func(r api.Row) []api.Row { return []api.Row{r, b, c} }},
		{api.Row{Id: 3, X: last, Y: last}, func(r api.Row) []api.Row { return []api.Row{a, r, b, c} }},
		{api.Row{Id: 5, Val: strings.Repeat("\x00", api.MaxVal)}, func(r api.Row) []api.Row { return []api.Row{a, r, c} }},
		{b, func(api.Row) []api.Row { return []api.Row{a, b, c} }},
		{api.Row{Id: 9}, func(r api.Row) []api.Row { return []api.Row{a, b, r} }},
		{api.Row{Id: math.MaxUint64, Val: "m"}, func(r api.Row) []api.Row { return []api.Row{a, b, c, r} }},
	} {
		got, e := Apply(l, api.Op{Kind: api.OPut, Row: want.row})
		if e != api.OK || !same(got, want.rows(want.row)) {
			t.Error(want.row, got, e)
		}
	}
	for _, none := range [][]api.Row{nil, {}} {
		if got, e := Apply(none, put(0, 0, 0, "")); e != api.OK || !same(got, []api.Row{{}}) {
			t.Error(got, e)
		}
	}
}

// TestMove (P12.1): the row of the Id is elsewhere, its value as it was, whatever the change's value is.
func TestMove(t *testing.T) {
	l := []api.Row{{Id: 2, X: 1, Val: "a"}, {Id: 5, Y: 2, Val: "b"}, {Id: 9, X: 3}}
	for i, r := range l {
		for _, val := range []string{"", "z", long, strings.Repeat("z", 100000)} {
			o := api.Op{Kind: api.OMove, Row: api.Row{Id: r.Id, X: last, Y: 8, Val: val}}
			want := slices.Clone(l)
			want[i].X, want[i].Y = last, 8
			if got, e := Apply(l, o); e != api.OK || !same(got, want) {
				t.Error(r.Id, len(val), got, e)
			}
		}
		if got, e := Apply(l, move(r.Id, r.X, r.Y)); e != api.OK || !same(got, l) {
			t.Error("to where it is", got, e)
		}
	}
}

// TestDelete (P12.1): the row of the Id is not there any more, whatever else the change's row has.
func TestDelete(t *testing.T) {
	l := []api.Row{{Id: 2, X: 1, Val: "a"}, {Id: 5, Y: 2, Val: "b"}, {Id: 9, X: 3}}
	for i, r := range l {
		for _, row := range []api.Row{{Id: r.Id}, r, {Id: r.Id, X: api.MaxPlace, Y: math.MaxUint32, Val: long}} {
			got, e := Apply(l, api.Op{Kind: api.ODelete, Row: row})
			if e != api.OK || !same(got, slices.Concat(l[:i], l[i+1:])) {
				t.Error(row, got, e)
			}
		}
	}
	if got, e := Apply(l[:1], drop(2)); e != api.OK || len(got) != 0 {
		t.Error("the only one", got, e)
	}
	if got, e := Apply([]api.Row{{}}, drop(0)); e != api.OK || len(got) != 0 {
		t.Error("a row of zeros", got, e)
	}
}

// TestApplyErrors (P12.1, R2): each error, and of several the one that is named first.
func TestApplyErrors(t *testing.T) {
	few, full := []api.Row{{Id: 2}, {Id: 5}}, line(api.MaxRows)
	op := func(kind int, r api.Row) api.Op { return api.Op{Kind: kind, Row: r} }
	for _, want := range []struct {
		what string
		l    []api.Row
		o    api.Op
		e    api.Errno
	}{
		{"no kind", few, op(0, few[0]), api.ErrArg},
		{"kind 4", few, op(4, few[0]), api.ErrArg},
		{"kind below 0", few, op(-1, few[0]), api.ErrArg},
		{"the least kind", few, op(math.MinInt, few[0]), api.ErrArg},
		{"the greatest kind", few, op(math.MaxInt, few[0]), api.ErrArg},
		{"a kind that wraps round", few, op(1<<32+1, few[0]), api.ErrArg},
		{"no kind, ahead of a wrong row", few, op(0, api.Row{Id: 9, X: api.MaxPlace}), api.ErrArg},
		{"no kind, ahead of none", few, op(9, api.Row{Id: 9}), api.ErrArg},
		{"no kind, ahead of too many", full, op(0, api.Row{Id: 9}), api.ErrArg},
		{"put off in X", few, put(2, api.MaxPlace, 0, ""), api.ErrRow},
		{"put off in Y", few, put(2, 0, api.MaxPlace, ""), api.ErrRow},
		{"put far off", few, put(2, math.MaxUint32, math.MaxUint32, ""), api.ErrRow},
		{"put of a long value", few, put(3, 0, 0, long), api.ErrRow},
		{"wrong put, ahead of too many", full, put(3, 0, 0, long), api.ErrRow},
		{"move off in X", few, move(2, api.MaxPlace, 0), api.ErrRow},
		{"move off in Y", few, move(2, 0, math.MaxUint32), api.ErrRow},
		{"wrong move, ahead of none", few, move(3, api.MaxPlace, 0), api.ErrRow},
		{"move of none", few, move(3, 1, 1), api.ErrNone},
		{"move of none, of no rows", nil, move(0, 0, 0), api.ErrNone},
		{"move of none, of many", full, move(3, 1, 1), api.ErrNone},
		{"delete of none", few, drop(3), api.ErrNone},
		{"delete of none, with a wrong row", few, op(api.ODelete, api.Row{Id: 3, X: api.MaxPlace, Val: long}), api.ErrNone},
		{"delete of none, of no rows", nil, drop(0), api.ErrNone},
		{"one more than there may be, ahead", full, put(0, 1, 1, ""), api.ErrMany},
		{"one more than there may be, within", full, put(15, 1, 1, ""), api.ErrMany},
		{"one more than there may be, behind", full, put(math.MaxUint64, 1, 1, ""), api.ErrMany},
	} {
		if got, e := Apply(want.l, want.o); len(got) != 0 || e != want.e {
			t.Error(want.what, got, e)
		}
		if got, at, e := Batch(want.l, []api.Op{want.o}); len(got) != 0 || at != 0 || e != want.e {
			t.Error(want.what, got, at, e)
		}
	}
}

// TestFull (P12.1): of 1000 rows each can be put anew, moved and deleted; to 999 one comes.
func TestFull(t *testing.T) {
	full := line(api.MaxRows)
	for i, r := range full {
		for _, o := range []api.Op{put(r.Id, 9, 9, "new"), move(r.Id, 9, 9)} {
			got, e := Apply(full, o)
			if e != api.OK || len(got) != api.MaxRows || got[i].X != 9 || got[i].Y != 9 {
				t.Fatal(o, len(got), e)
			}
		}
		rest, e := Apply(full, drop(r.Id))
		if e != api.OK || len(rest) != api.MaxRows-1 {
			t.Fatal(r, len(rest), e)
		}
		if got, e := Apply(rest, api.Op{Kind: api.OPut, Row: r}); e != api.OK || !same(got, full) {
			t.Fatal(r, len(got), e)
		}
	}
}

// TestBatch (P12.2): changes are applied one behind the other, each to what those ahead of it made.
func TestBatch(t *testing.T) {
	l := []api.Row{{Id: 5, X: 5, Val: "five"}}
	for _, want := range []struct {
		what string
		ops  []api.Op
		rows []api.Row
	}{
		{"one", []api.Op{put(2, 1, 1, "b")}, []api.Row{{Id: 2, X: 1, Y: 1, Val: "b"}, l[0]}},
		{"put, then moved", []api.Op{put(2, 1, 1, "b"), move(2, 3, 4)}, []api.Row{{Id: 2, X: 3, Y: 4, Val: "b"}, l[0]}},
		{"put, then deleted", []api.Op{put(7, 1, 1, "b"), drop(7)}, l},
		{"deleted, then put", []api.Op{drop(5), put(5, 1, 1, "b")}, []api.Row{{Id: 5, X: 1, Y: 1, Val: "b"}}},
		{"all deleted", []api.Op{drop(5)}, nil},
		{"the last put holds", []api.Op{put(1, 1, 1, "a"), put(1, 2, 2, "b"), put(1, 3, 3, "c")}, []api.Row{{Id: 1, X: 3, Y: 3, Val: "c"}, l[0]}},
		{"falling Ids", []api.Op{put(9, 0, 0, ""), put(8, 0, 0, ""), put(0, 0, 0, "")}, []api.Row{{}, l[0], {Id: 8}, {Id: 9}}},
	} {
		if got, at, e := Batch(l, want.ops); !same(got, want.rows) || at != 0 || e != api.OK {
			t.Error(want.what, got, at, e)
		}
	}
}

// TestBatchSizes (P12.2, R2, R3): 1 to 64 changes are a batch; of more or none it is said ahead of their errors.
func TestBatchSizes(t *testing.T) {
	l := line(3)
	for _, ops := range [][]api.Op{nil, {}, make([]api.Op, api.MaxBatch+1), make([]api.Op, 1000)} {
		if got, at, e := Batch(l, ops); len(got) != 0 || at != 0 || e != api.ErrBatch {
			t.Error(len(ops), got, at, e)
		}
	}
	var ops []api.Op
	for i := range api.MaxBatch {
		ops = append(ops, put(uint64(i), 1, 1, ""))
		if got, at, e := Batch(nil, ops); len(got) != i+1 || at != 0 || e != api.OK {
			t.Error(i, got, at, e)
		}
	}
	if got, at, e := Batch(nil, append(ops, put(64, 1, 1, ""))); len(got) != 0 || at != 0 || e != api.ErrBatch {
		t.Error(got, at, e)
	}
}

// TestBatchErrors (P12.2, R2): the place and the error of the first change that has one, and no rows.
func TestBatchErrors(t *testing.T) {
	wrongs := map[api.Errno]api.Op{api.ErrArg: {Kind: 4}, api.ErrRow: put(1, 0, 0, long), api.ErrNone: drop(6)}
	for want, wrong := range wrongs {
		for at := range api.MaxBatch {
			ops := make([]api.Op, api.MaxBatch)
			for i := range ops {
				ops[i] = put(5, uint32(i), 0, "")
			}
			ops[at] = wrong
			for _, other := range []api.Op{{}, drop(9), put(1, api.MaxPlace, 0, "")} {
				if at+1 < len(ops) {
					ops[len(ops)-1] = other // a later error is none that is told
				}
				if got, place, e := Batch(nil, ops); len(got) != 0 || place != at || e != want {
					t.Error(want, at, got, place, e)
				}
			}
		}
	}
	if got, at, e := Batch(nil, []api.Op{put(5, 0, 0, ""), drop(6)}); len(got) != 0 || at != 1 || e != api.ErrNone {
		t.Error("the chapter's example", got, at, e)
	}
	if got, at, e := Batch(line(2), []api.Op{drop(10), drop(10)}); len(got) != 0 || at != 1 || e != api.ErrNone {
		t.Error("deleted twice", got, at, e)
	}
}

// TestBatchFull (P12.2): too many rows between two changes are too many, though the next one deletes one.
func TestBatchFull(t *testing.T) {
	full := line(api.MaxRows)
	if got, at, e := Batch(full, []api.Op{put(10, 1, 1, ""), put(1, 1, 1, ""), drop(10)}); len(got) != 0 || at != 1 || e != api.ErrMany {
		t.Error(len(got), at, e)
	}
	if got, at, e := Batch(full, []api.Op{drop(10), put(1, 1, 1, "")}); len(got) != api.MaxRows || at != 0 || e != api.OK {
		t.Error(len(got), at, e)
	}
	if got, at, e := Batch(full[:999], []api.Op{put(1, 1, 1, ""), put(2, 1, 1, "")}); len(got) != 0 || at != 1 || e != api.ErrMany {
		t.Error(len(got), at, e)
	}
}

// TestSecondWay (P12.1, P12.2, P12.3, R2): changes by chance, done to rows that are kept by their Ids, make the same of them.
func TestSecondWay(t *testing.T) {
	r := rand.New(rand.NewSource(12))
	for range 4000 {
		ids := 1 + r.Intn(20)
		l, wrong := someRows(r, ids), 1+r.Intn(40)
		ops := make([]api.Op, 1+r.Intn(12))
		k, at, want := keep(l), 0, api.OK
		for i := range ops {
			ops[i] = someOp(r, ids, wrong)
			if r.Intn(3) > 0 {
				ops[i].Kind = api.OPut
			}
		}
		for i, o := range ops {
			ahead := k.rows()
			e := k.change(o)
			got, told := Apply(ahead, o)
			if told != e || e == api.OK && !same(got, k.rows()) || e != api.OK && len(got) != 0 {
				t.Fatal(ahead, o, got, told, e)
			}
			if e != api.OK {
				at, want = i, e
				break
			}
		}
		got, place, e := Batch(l, ops)
		if place != at || e != want || e == api.OK && !same(got, k.rows()) || e != api.OK && len(got) != 0 {
			t.Fatal(l, ops, got, place, e, at, want)
		}
		if !quad.Right(got) {
			t.Fatal("not right", got)
		}
	}
}

// TestPutIsGot (P12.3): a row that was put is got till it is deleted, whatever happens to others; those stay as they were.
func TestPutIsGot(t *testing.T) {
	r := rand.New(rand.NewSource(123))
	for range 300 {
		l := someRows(r, 12)
		row := api.Row{Id: someId(r, 12), X: somePlace(r), Y: somePlace(r), Val: "mine"}
		l, e := Apply(l, api.Op{Kind: api.OPut, Row: row})
		if e != api.OK {
			t.Fatal(e)
		}
		for range 30 {
			o := someOp(r, 12, 0)
			if o.Row.Id == row.Id {
				continue
			}
			next, e := Apply(l, o)
			if e != api.OK {
				continue
			}
			if got, e := Get(next, row.Id); got != row || e != api.OK {
				t.Fatal(o, got, e)
			}
			other := func(r api.Row) bool { return r.Id == o.Row.Id }
			if !same(slices.DeleteFunc(slices.Clone(l), other), slices.DeleteFunc(slices.Clone(next), other)) {
				t.Fatal("others did not stay", l, o, next)
			}
			l = next
		}
		if l, e = Apply(l, drop(row.Id)); e != api.OK {
			t.Fatal(e)
		}
		if got, e := Get(l, row.Id); got != (api.Row{}) || e != api.ErrNone {
			t.Fatal(got, e)
		}
	}
}

// scrawl writes over a list, its spare room too.
func scrawl(l []api.Row) {
	l = l[:cap(l)]
	for i := range l {
		l[i] = api.Row{Id: 666, X: 666, Val: "scrawled"}
	}
}

// roomy is l with spare room behind it, and what stands there.
func roomy[T any](l []T, spare T) ([]T, []T) {
	whole := append(slices.Clone(l), spare, spare, spare)
	return whole[:len(l)], whole
}

// TestMemory (R3): what is handed in is neither written into, nor its spare room; answers share nothing with it, nor with each other.
func TestMemory(t *testing.T) {
	marked := api.Row{Id: 777, Val: "spare"}
	for _, ops := range [][]api.Op{
		{put(5, 1, 1, "")}, {put(10, 9, 9, "n")}, {put(10, 0, 7, "v")}, {put(25, 1, 1, "")}, {put(99, 1, 1, "")},
		{move(10, 4, 4)}, {move(20, 1, 7)}, {move(30, 4, 4)}, {drop(10)}, {drop(20)}, {drop(30)},
		{put(99, 1, 1, ""), drop(99)}, {drop(30), put(30, 2, 7, "v")}, {drop(10), drop(20), put(99, 1, 1, ""), put(1, 1, 1, "")},
		{put(99, 1, 1, ""), drop(98)}, {drop(10), {}}, {put(25, 1, 1, ""), put(26, api.MaxPlace, 0, "")},
	} {
		l, whole := roomy(line(3), marked)
		list, wholeOps := roomy(ops, put(777, 7, 7, "spare"))
		before, beforeOps := slices.Clone(whole), slices.Clone(wholeOps)
		want, at, e := Batch(slices.Clone(l), slices.Clone(ops))
		one, oneE := Apply(l, ops[0])
		again, _ := Apply(l, ops[0])
		Get(l, 10)
		first, _, _ := Batch(l, list)
		second, at2, e2 := Batch(l, list)
		if at2 != at || e2 != e || !same(second, want) || oneE != api.OK {
			t.Fatal(ops, second, at2, e2, oneE)
		}
		wantOne := slices.Clone(again)
		scrawl(one)
		scrawl(first)
		if !reflect.DeepEqual(whole, before) || !reflect.DeepEqual(wholeOps, beforeOps) {
			t.Error("what was handed in is not as it was", ops, whole)
		}
		scrawl(whole)
		for i := range wholeOps {
			wholeOps[i] = api.Op{Kind: 9}
		}
		if !same(second, want) || !same(again, wantOne) {
			t.Error("an answer shares what was handed in, or another answer's", ops, second, again)
		}
	}
}

// TestNilAndEmpty (R3): nil and empty lists are one.
func TestNilAndEmpty(t *testing.T) {
	for _, o := range []api.Op{{}, put(1, 1, 1, "a"), put(1, api.MaxPlace, 1, "a"), move(1, 1, 1), drop(1)} {
		a, ae := Apply(nil, o)
		b, be := Apply([]api.Row{}, o)
		if !same(a, b) || ae != be {
			t.Error(o, a, ae, b, be)
		}
		c, ca, ce := Batch(nil, []api.Op{o, o})
		d, da, de := Batch(make([]api.Row, 0, 9), []api.Op{o, o})
		if !same(c, d) || ca != da || ce != de {
			t.Error(o, c, ca, ce, d, da, de)
		}
	}
}
