package device

import (
	"math"
	"math/rand"
	"slices"
	"strings"
	"testing"

	"sphragis/api"
)

// made is a device of n blocks.
func made(t *testing.T, n int) *Device {
	t.Helper()
	d, e := New(n)
	if e != api.OK || d == nil {
		t.Fatalf("New(%d): %v %d", n, d, e)
	}
	return d
}

// text is a block's, of four sectors that are like none of another text, nor like each other.
func text(name byte) string {
	var b strings.Builder
	for sector := range byte(4) {
		b.WriteString(strings.Repeat(string([]byte{name, sector + 1}), 32))
	}
	return b.String()
}

// none is the text of a block that nobody wrote.
var none = strings.Repeat("\x00", 256)

// tag is one of 32 bytes.
func tag(name byte) string { return strings.Repeat(string([]byte{name}), 32) }

// state is what later calls can tell of a device, but for its cut, and which blocks are pending.
type state struct {
	image    []string
	register api.Register
	bad      []bool
	ended    bool
	durable  []string
}

// look is a device's state, without changing it.
func look(d *Device) state {
	s := state{image: d.Image(), register: d.Register()}
	for p := range uint32(d.Blocks()) {
		_, e := d.Read(p)
		s.bad = append(s.bad, e == api.ErrIO)
		s.ended = s.ended || e == api.ErrPower
		s.durable = append(s.durable, d.blocks[p].text)
	}
	return s
}

// same tells whether two states are.
func same(a, b state) bool {
	return slices.Equal(a.image, b.image) && a.register == b.register && slices.Equal(a.bad, b.bad) && a.ended == b.ended && slices.Equal(a.durable, b.durable)
}

// ok fails the test unless all of these are OK.
func ok(t *testing.T, l ...api.Errno) {
	t.Helper()
	for i, e := range l {
		if e != api.OK {
			t.Fatalf("call %d: %d", i, e)
		}
	}
}

// is fails the test unless the block at p is read as s.
func is(t *testing.T, d *Device, p uint32, s string) {
	t.Helper()
	if r, e := d.Read(p); r != s || e != api.OK {
		t.Errorf("Read(%d): %q, %d; not %q", p, r, e, s)
	}
}

// operations are the calls that are, one of each kind, that do something.
func operations() map[string]func(d *Device) api.Errno {
	return map[string]func(d *Device) api.Errno{
		"Write":   func(d *Device) api.Errno { return d.Write(3, text('o')) },
		"Flush":   func(d *Device) api.Errno { return d.Flush() },
		"Advance": func(d *Device) api.Errno { return d.Advance(tag('o')) },
		"Start": func(d *Device) api.Errno {
			_, e := d.Start()
			return e
		},
	}
}

// TestExample (P7.3): the chapter's.
func TestExample(t *testing.T) {
	d := made(t, 4)
	ok(t, d.Write(1, text('a')))
	d.Cut(0)
	if e := d.Flush(); e != api.ErrPower {
		t.Error(e)
	}
	ok(t, d.Wake([]int{2}))
	is(t, d, 1, text('a')[:128]+none[128:])
}

// TestNew (P7.1): which devices there are, and what they hold at first.
func TestNew(t *testing.T) {
	for _, n := range []int{math.MinInt, -256, -4, -1, 0, 1, 3, 4097, 1 << 16, 1<<32 + 4, math.MaxInt} {
		if d, e := New(n); d != nil || e != api.ErrArg {
			t.Errorf("New(%d): %v %d", n, d, e)
		}
	}
	for _, n := range []int{4, 5, 60, 200, 4095, 4096} {
		d := made(t, n)
		if d.Blocks() != n || len(d.Image()) != n {
			t.Errorf("%d blocks: %d, an image of %d", n, d.Blocks(), len(d.Image()))
		}
		if r := d.Register(); r != (api.Register{Tag: strings.Repeat("\x00", 32)}) {
			t.Errorf("%d blocks: %v", n, r)
		}
		for p := range uint32(n) {
			is(t, d, p, none)
		}
		if slices.ContainsFunc(d.Image(), func(s string) bool { return s != none }) {
			t.Errorf("%d blocks: an image with something", n)
		}
	}
}

// TestDevicesApart (R4): what is done to one device does not show in another.
func TestDevicesApart(t *testing.T) {
	a, b := made(t, 4), made(t, 4)
	ahead := look(b)
	ok(t, a.Write(0, text('a')), a.Flush(), a.Write(1, text('b')), a.Put(2, text('c')), a.Bad(3, true), a.Advance(tag('t')))
	a.Start()
	a.Cut(0)
	a.Flush()
	if !same(look(b), ahead) {
		t.Error("another device changed")
	}
	ok(t, b.Write(1, text('d')), b.Flush())
}

// TestNil (P7.1, P7.2, P7.3, R4): a nil device, right arguments or not.
func TestNil(t *testing.T) {
	var d *Device
	if d.Blocks() != 0 || d.Register() != (api.Register{}) || len(d.Image()) != 0 {
		t.Error(d.Blocks(), d.Register(), d.Image())
	}
	for _, p := range []uint32{0, 3, math.MaxUint32} {
		if s, e := d.Read(p); s != "" || e != api.ErrNil {
			t.Errorf("Read: %q %d", s, e)
		}
		for _, s := range []string{"", text('a')} {
			if d.Write(p, s) != api.ErrNil || d.Put(p, s) != api.ErrNil {
				t.Error("Write or Put")
			}
		}
		if d.Bad(p, true) != api.ErrNil || d.Bad(p, false) != api.ErrNil {
			t.Error("Bad")
		}
	}
	if n, e := d.Start(); n != 0 || e != api.ErrNil {
		t.Error(n, e)
	}
	for _, n := range []int{math.MinInt, -1, 0, 1, math.MaxInt} {
		d.Cut(n)
	}
	if d.Flush() != api.ErrNil || d.Advance("") != api.ErrNil || d.Advance(tag('t')) != api.ErrNil || d.Wake(nil) != api.ErrNil || d.Wake([]int{1}) != api.ErrNil {
		t.Error("Flush, Advance or Wake")
	}
}

// TestZero (R1): a device that New did not make has no blocks, and panics nowhere.
func TestZero(t *testing.T) {
	d := &Device{}
	if d.Blocks() != 0 || len(d.Image()) != 0 || d.Write(0, text('a')) != api.ErrArg || d.Put(0, text('a')) != api.ErrArg || d.Bad(0, true) != api.ErrArg {
		t.Error("a block")
	}
	ok(t, d.Flush(), d.Wake([]int{1}), d.Advance(tag('t')))
}

// wrongPlaces are none of a device of 4 blocks.
func wrongPlaces() []uint32 {
	return []uint32{4, 5, 256, 4096, 1 << 16, 1 << 31, math.MaxUint32 - 3, math.MaxUint32}
}

// wrongTexts are no block's.
func wrongTexts() []string {
	return []string{"", "a", text('a')[:255], text('a') + "a", text('a') + text('b'), strings.Repeat("é", 256)}
}

// TestWrong (P7.1, P7.2, P7.3, R2): what is refused for its arguments, with power and without; nothing changes.
func TestWrong(t *testing.T) {
	for _, cut := range []bool{false, true} {
		d := made(t, 4)
		ok(t, d.Write(0, text('a')), d.Flush(), d.Write(1, text('b')), d.Bad(2, true))
		if cut {
			d.Cut(0)
			d.Flush()
		}
		ahead := look(d)
		for _, p := range wrongPlaces() {
			if s, e := d.Read(p); s != "" || e != api.ErrArg {
				t.Errorf("Read(%d): %q %d", p, s, e)
			}
			if d.Write(p, text('c')) != api.ErrArg || d.Put(p, text('c')) != api.ErrArg || d.Bad(p, true) != api.ErrArg || d.Bad(p, false) != api.ErrArg {
				t.Errorf("Write, Put or Bad of %d", p)
			}
		}
		for _, s := range wrongTexts() {
			for _, p := range append(wrongPlaces(), 0, 1, 2, 3) {
				if d.Write(p, s) != api.ErrArg || d.Put(p, s) != api.ErrArg {
					t.Errorf("Write or Put of %d bytes", len(s))
				}
			}
		}
		for _, s := range []string{"", "t", tag('t')[:31], tag('t') + "t", text('t'), strings.Repeat("é", 32)} {
			if d.Advance(s) != api.ErrArg {
				t.Errorf("Advance of %d bytes", len(s))
			}
		}
		if !same(look(d), ahead) {
			t.Error("something changed")
		}
	}
}

// TestBytesNotLetters (P7.1, P7.2): sizes are counted in bytes, and any bytes are right.
func TestBytesNotLetters(t *testing.T) {
	d := made(t, 4)
	s, u := strings.Repeat("é", 128), strings.Repeat("\xff", 256)
	ok(t, d.Write(0, s), d.Write(3, u), d.Advance(strings.Repeat("é", 16)))
	is(t, d, 0, s)
	is(t, d, 3, u)
	if d.Register().Tag != strings.Repeat("é", 16) {
		t.Errorf("%q", d.Register().Tag)
	}
}

// TestPending (P7.1, P7.3): what is written is read at once, but is there for good from the flush on alone.
func TestPending(t *testing.T) {
	d := made(t, 4)
	ok(t, d.Write(1, text('a')))
	is(t, d, 1, text('a'))
	is(t, d, 0, none)
	ok(t, d.Write(1, text('b')))
	is(t, d, 1, text('b'))
	ok(t, d.Wake(nil))
	is(t, d, 1, none)

	ok(t, d.Write(1, text('a')), d.Write(3, text('c')), d.Flush())
	is(t, d, 1, text('a'))
	ok(t, d.Wake([]int{1, 1, 1, 1}))
	is(t, d, 1, text('a'))
	is(t, d, 3, text('c'))

	// of what was written twice the last one counts, over what was flushed, not over what was written first
	ok(t, d.Write(1, text('d')), d.Write(1, text('e')), d.Wake([]int{1}))
	is(t, d, 1, text('e')[:64]+text('a')[64:])

	// a flush with nothing pending is one, too
	ok(t, d.Flush(), d.Flush())
	is(t, d, 1, text('e')[:64]+text('a')[64:])
}

// TestFates (P7.3): what each fate leaves of a pending block.
func TestFates(t *testing.T) {
	for _, c := range []struct{ fate, bytes int }{
		{math.MinInt, 0}, {-256, 0}, {-4, 0}, {-1, 0}, {0, 0}, {1, 64}, {2, 128}, {3, 192}, {4, 256},
		{5, 0}, {6, 0}, {64, 0}, {256, 0}, {257, 0}, {1 << 32, 0}, {1<<32 + 1, 0}, {1<<58 + 1, 0}, {math.MaxInt, 0},
	} {
		d := made(t, 4)
		ok(t, d.Write(2, text('a')), d.Flush(), d.Write(2, text('b')))
		fates := []int{c.fate, 4, 4}
		ok(t, d.Wake(fates[:1]))
		is(t, d, 2, text('b')[:c.bytes]+text('a')[c.bytes:])
		for _, p := range []uint32{0, 1, 3} {
			is(t, d, p, none)
		}
		if !slices.Equal(fates, []int{c.fate, 4, 4}) {
			t.Error("fates written into", fates)
		}
	}
}

// TestFatesByPlace (P7.3): the i-th fate is the i-th pending block's, by rising places, whatever the order of writing.
func TestFatesByPlace(t *testing.T) {
	places := []uint32{2, 3, 17, 255, 256, 300, 1000, 4095}
	fates := []int{1, 4, 0, 2, 9, 3}
	left := []int{64, 256, 0, 128, 0, 192, 0, 0}
	r := rand.New(rand.NewSource(7))
	for range 50 {
		d := made(t, 4096)
		for _, i := range r.Perm(len(places)) {
			ok(t, d.Write(places[i], text(byte(i+1))))
		}
		ok(t, d.Wake(fates))
		for i, p := range places {
			is(t, d, p, text(byte(i + 1))[:left[i]]+none[left[i]:])
		}
		is(t, d, 0, none)
	}
	d := made(t, 4)
	ok(t, d.Write(3, text('d')), d.Write(0, text('a')), d.Wake([]int{4, 1, 2, 3, 4, 4}))
	is(t, d, 0, text('a'))
	is(t, d, 3, text('d')[:64]+none[64:])
	is(t, d, 1, none)
	is(t, d, 2, none)
}

// TestWakeEnds (P7.3): behind Wake nothing is pending, and no cut is set, whether the power had ended or not.
func TestWakeEnds(t *testing.T) {
	for _, ended := range []bool{false, true} {
		d := made(t, 4)
		ok(t, d.Write(0, text('a')), d.Flush(), d.Write(0, text('b')))
		d.Cut(0)
		if ended {
			d.Flush()
		}
		ok(t, d.Wake([]int{3}))
		torn := text('b')[:192] + text('a')[192:]
		is(t, d, 0, torn)
		for range 100 {
			ok(t, d.Flush())
		}
		is(t, d, 0, torn)
		ok(t, d.Wake([]int{4}))
		is(t, d, 0, torn)
	}
}

// TestCut (P7.3): the power ends with the operation that is one more than n, of whatever kind; Read goes on till then.
func TestCut(t *testing.T) {
	for name, last := range operations() {
		for n := range 6 {
			d := made(t, 4)
			ok(t, d.Write(1, text('a')))
			d.Cut(n)
			for i := range n {
				is(t, d, 1, text('a'))
				ok(t, []func() api.Errno{
					func() api.Errno { return d.Write(2, text('b')) },
					func() api.Errno { return d.Advance(tag('t')) },
					func() api.Errno { _, e := d.Start(); return e },
				}[i%3]())
			}
			is(t, d, 1, text('a'))
			ahead := look(d)
			for range 3 {
				if e := last(d); e != api.ErrPower {
					t.Errorf("%s behind %d: %d", name, n, e)
				}
			}
			ahead.ended = true
			if !same(look(d), ahead) {
				t.Errorf("%s behind %d did something", name, n)
			}
			for other, call := range operations() {
				if e := call(d); e != api.ErrPower {
					t.Errorf("%s, then %s: %d", name, other, e)
				}
			}
			if !same(look(d), ahead) {
				t.Error("something was done without power")
			}
			if m, e := d.Start(); m != 0 || e != api.ErrPower {
				t.Error(m, e)
			}
		}
	}
}

// TestNoOperations (P7.3): what is refused, and what only asks or meddles, does not count against the cut.
func TestNoOperations(t *testing.T) {
	d := made(t, 4)
	d.Cut(1)
	for range 3 {
		d.Read(0)
		d.Read(9)
		d.Write(9, text('a'))
		d.Write(0, "a")
		d.Advance("t")
		d.Put(0, text('p'))
		d.Put(9, "")
		d.Bad(0, true)
		d.Bad(0, false)
		d.Blocks()
		d.Image()
		d.Register()
	}
	d.register.Counter, d.register.Boots = math.MaxUint64, math.MaxUint32
	for range 3 {
		d.Advance(tag('t'))
		d.Start()
	}
	ok(t, d.Write(0, text('b')))
	is(t, d, 0, text('b'))
	if e := d.Write(0, text('c')); e != api.ErrPower {
		t.Error(e)
	}
}

// TestCutAnew (P7.3): the last Cut counts; below 0 there is none; power that has ended comes back with Wake alone.
func TestCutAnew(t *testing.T) {
	for _, n := range []int{-1, -2, math.MinInt, math.MaxInt, 1000} {
		d := made(t, 4)
		d.Cut(0)
		d.Cut(n)
		for range 1000 {
			ok(t, d.Flush())
		}
		d.Cut(1)
		ok(t, d.Flush())
		d.Cut(1)
		ok(t, d.Flush())
		if e := d.Flush(); e != api.ErrPower {
			t.Errorf("Cut(%d), then 1: %d", n, e)
		}
		d.Cut(n)
		if e := d.Flush(); e != api.ErrPower {
			t.Errorf("Cut(%d) behind the end: %d", n, e)
		}
		if _, e := d.Read(0); e != api.ErrPower {
			t.Errorf("Cut(%d) behind the end, Read: %d", n, e)
		}
		d.Cut(0)
		ok(t, d.Wake(nil), d.Flush())
		is(t, d, 0, none)
	}
}

// TestOrder (P7.1, P7.2, R1): the error that the promise names first is told.
func TestOrder(t *testing.T) {
	d := made(t, 4)
	ok(t, d.Bad(1, true))
	d.Cut(0)
	if _, e := d.Read(1); e != api.ErrIO {
		t.Error(e)
	}
	d.register.Counter, d.register.Boots = math.MaxUint64, math.MaxUint32
	if e := d.Flush(); e != api.ErrPower {
		t.Error(e)
	}
	if s, e := d.Read(1); s != "" || e != api.ErrPower {
		t.Errorf("%q %d", s, e)
	}
	if _, e := d.Read(4); e != api.ErrArg {
		t.Error(e)
	}
	if e := d.Advance("t"); e != api.ErrArg {
		t.Error(e)
	}
	if e := d.Advance(tag('t')); e != api.ErrExhausted {
		t.Error(e)
	}
	if n, e := d.Start(); n != 0 || e != api.ErrExhausted {
		t.Error(n, e)
	}
}

// TestRegister (P7.2, P7.4): the register is what Advance and Start have made of it, and nothing else.
func TestRegister(t *testing.T) {
	d := made(t, 4)
	want := api.Register{Tag: strings.Repeat("\x00", 32)}
	for i := range 300 {
		if i%3 == 0 {
			ok(t, d.Advance(tag(byte(i))))
			want.Counter++
			want.Tag = tag(byte(i))
		} else {
			n, e := d.Start()
			ok(t, e)
			want.Boots++
			if n != want.Boots {
				t.Errorf("start %d: %d", want.Boots, n)
			}
		}
		if d.Register() != want {
			t.Fatal(d.Register(), want)
		}
		d.Write(0, text('a'))
		d.Put(1, text('b'))
		d.Bad(2, true)
		d.Cut(1)
		d.Flush()
		for _, call := range operations() {
			call(d)
		}
		if d.Register() != want {
			t.Fatal(d.Register(), want)
		}
		ok(t, d.Wake([]int{4, 4}))
		if d.Register() != want {
			t.Fatal(d.Register(), want)
		}
	}
}

// TestExhausted (P7.2): the counter and the starts end, and do not go round.
func TestExhausted(t *testing.T) {
	d := made(t, 4)
	d.register = api.Register{Counter: math.MaxUint64 - 1, Tag: tag('a'), Boots: math.MaxUint32 - 1}
	ok(t, d.Advance(tag('b')))
	if n, e := d.Start(); n != math.MaxUint32 || e != api.OK {
		t.Error(n, e)
	}
	want := api.Register{Counter: math.MaxUint64, Tag: tag('b'), Boots: math.MaxUint32}
	for range 2 {
		if e := d.Advance(tag('c')); e != api.ErrExhausted {
			t.Error(e)
		}
		if n, e := d.Start(); n != 0 || e != api.ErrExhausted {
			t.Error(n, e)
		}
		if d.Register() != want {
			t.Error(d.Register())
		}
	}
	// one is exhausted without the other
	d.register = api.Register{Counter: math.MaxUint64, Tag: tag('a')}
	if _, e := d.Start(); e != api.OK {
		t.Error(e)
	}
	d.register = api.Register{Tag: tag('a'), Boots: math.MaxUint32}
	ok(t, d.Advance(tag('b')))
}

// TestPut (P7.3): what is put is there for good, pending or not, with power or without, and shifts no other's fate.
func TestPut(t *testing.T) {
	for _, cut := range []bool{false, true} {
		d := made(t, 4)
		ok(t, d.Write(0, text('a')), d.Write(1, text('b')), d.Write(3, text('c')))
		if cut {
			d.Cut(0)
			d.Flush()
		}
		ok(t, d.Put(1, text('p')), d.Put(2, text('q')))
		if l := d.Image(); !slices.Equal(l, []string{text('a'), text('p'), text('q'), text('c')}) {
			t.Errorf("%q", l)
		}
		ok(t, d.Wake([]int{1, 2, 3}))
		want := []string{text('a')[:64] + none[64:], text('p'), text('q'), text('c')[:128] + none[128:]}
		if l := d.Image(); !slices.Equal(l, want) {
			t.Errorf("%q", l)
		}
	}
	// a flush does not bring back what was written ahead of Put; what is written behind it is torn over it
	d := made(t, 4)
	ok(t, d.Write(1, text('b')), d.Put(1, text('p')), d.Flush())
	is(t, d, 1, text('p'))
	ok(t, d.Write(1, text('c')), d.Wake([]int{2}))
	is(t, d, 1, text('c')[:128]+text('p')[128:])
}

// TestBad (P7.3): a bad block is not read, but holds, takes and keeps what others do; no call but Bad mends it.
func TestBad(t *testing.T) {
	d := made(t, 4)
	ok(t, d.Write(1, text('a')), d.Flush(), d.Bad(1, true), d.Bad(1, true))
	unread := func() {
		t.Helper()
		if s, e := d.Read(1); s != "" || e != api.ErrIO {
			t.Errorf("%q %d", s, e)
		}
	}
	unread()
	is(t, d, 0, none)
	is(t, d, 2, none)
	if d.Image()[1] != text('a') {
		t.Error("Image of a bad block")
	}
	ok(t, d.Write(1, text('b')))
	unread()
	if d.Image()[1] != text('b') {
		t.Error("Image of a bad pending block")
	}
	ok(t, d.Flush())
	unread()
	ok(t, d.Put(1, text('c')))
	unread()
	ok(t, d.Wake(nil))
	unread()
	ok(t, d.Bad(1, false))
	is(t, d, 1, text('c'))
	ok(t, d.Bad(1, false))
	is(t, d, 1, text('c'))

	// a bad pending block has its fate; without power blocks can get bad
	ok(t, d.Write(1, text('d')), d.Write(2, text('e')))
	d.Cut(0)
	d.Flush()
	ok(t, d.Bad(1, true), d.Wake([]int{1, 2}))
	unread()
	is(t, d, 2, text('e')[:128]+none[128:])
	if d.Image()[1] != text('d')[:64]+text('c')[64:] {
		t.Error("fate of a bad block")
	}
}

// TestImage (P7.3, R3): as Read tells, without power too; what is answered is the caller's own.
func TestImage(t *testing.T) {
	d := made(t, 4)
	ok(t, d.Write(0, text('a')), d.Flush(), d.Write(1, text('b')))
	want := []string{text('a'), text('b'), none, none}
	l := d.Image()
	if !slices.Equal(l, want) {
		t.Errorf("%q", l)
	}
	for i := range l {
		l[i] = "meddled"
	}
	_ = append(l[:0], "more", "of", "it")
	d.Cut(0)
	d.Flush()
	if !slices.Equal(d.Image(), want) {
		t.Errorf("%q", d.Image())
	}
	ok(t, d.Wake(nil))
	if !slices.Equal(d.Image(), []string{text('a'), none, none, none}) {
		t.Errorf("%q", d.Image())
	}
}

// TestFlushedStays (P7.4): whichever operation the power ends with, and whatever becomes of what was pending, blocks
// that were flushed and not written again are as they were flushed, and the register is what was done to it.
func TestFlushedStays(t *testing.T) {
	script := []func(d *Device) api.Errno{
		func(d *Device) api.Errno { return d.Write(0, text('a')) },
		func(d *Device) api.Errno { return d.Write(2, text('b')) },
		func(d *Device) api.Errno { return d.Flush() },
		func(d *Device) api.Errno { return d.Advance(tag('1')) },
		func(d *Device) api.Errno { return d.Write(1, text('c')) },
		func(d *Device) api.Errno { return d.Write(2, text('d')) },
		func(d *Device) api.Errno { return d.Flush() },
		func(d *Device) api.Errno { return d.Advance(tag('2')) },
		func(d *Device) api.Errno { return d.Write(0, text('e')) },
	}
	flushed := []map[uint32]string{3: {0: text('a'), 2: text('b')}, 7: {0: text('a'), 1: text('c'), 2: text('d')}}
	for n := range len(script) + 1 {
		for fate := range 36 {
			d := made(t, 4)
			d.Cut(n)
			for i, do := range script {
				if e := do(d); (e == api.OK) != (i < n) || (e == api.ErrPower) != (i >= n) {
					t.Fatalf("operation %d of %d: %d", i, n, e)
				}
			}
			ok(t, d.Wake([]int{fate / 6, fate % 6}))
			want := map[uint32]string{}
			switch {
			case n >= 7:
				want = flushed[7]
			case n >= 3:
				want = flushed[3]
			}
			for p, s := range want {
				if p == 0 && n >= 9 || p == 2 && n == 6 {
					continue // written again, and not flushed
				}
				is(t, d, p, s)
			}
			is(t, d, 3, none)
			if c := d.Register().Counter; (c >= 1) != (n >= 4) || (c >= 2) != (n >= 8) {
				t.Errorf("%d operations: counter %d", n, c)
			}
		}
	}
}

// plainDevice is another device, of 6 blocks: each place has what is there for good beside what it holds now.
type plainDevice struct {
	good, now [6]string
	dirty     [6]bool
	bad       [6]bool
	register  api.Register
	allowed   int // operations; below 0: any
	off       bool
}

func (m *plainDevice) operation() api.Errno {
	if m.off || m.allowed == 0 {
		m.off = true
		return api.ErrPower
	}
	m.allowed = max(m.allowed-1, -1)
	return api.OK
}

func (m *plainDevice) wake(fates []int) {
	for p := range m.good {
		if m.dirty[p] {
			f := 0
			if len(fates) > 0 {
				f, fates = fates[0], fates[1:]
			}
			b := []byte(m.good[p])
			if f >= 1 && f <= 4 {
				copy(b, m.now[p][:64*f])
			}
			m.good[p] = string(b)
		}
		m.now[p], m.dirty[p] = m.good[p], false
	}
	m.off, m.allowed = false, -1
}

// step does one call, by chance, to both; false, if they answer not the same.
func step(r *rand.Rand, d *Device, m *plainDevice) bool {
	p := uint32(r.Intn(7))
	s := text(byte(r.Intn(256)))
	if r.Intn(12) == 0 {
		s = s[1:]
	}
	wrong := p > 5 || len(s) != 256
	switch r.Intn(13) {
	case 0, 1, 2, 3:
		want := api.ErrArg
		if !wrong {
			if want = m.operation(); want == api.OK {
				m.now[p], m.dirty[p] = s, true
			}
		}
		return d.Write(p, s) == want
	case 4:
		want := m.operation()
		if want == api.OK {
			m.good, m.dirty = m.now, [6]bool{}
		}
		return d.Flush() == want
	case 5:
		want := m.operation()
		if want == api.OK {
			m.register.Counter++
			m.register.Tag = s[:32]
		}
		return d.Advance(s[:32]) == want
	case 6:
		want, n := m.operation(), uint32(0)
		if want == api.OK {
			m.register.Boots++
			n = m.register.Boots
		}
		got, e := d.Start()
		return got == n && e == want
	case 7:
		m.allowed = r.Intn(8) - 1
		d.Cut(m.allowed)
	case 8:
		fates := make([]int, r.Intn(7))
		for i := range fates {
			fates[i] = r.Intn(7) - 1
		}
		m.wake(fates)
		return d.Wake(fates) == api.OK
	case 9:
		if wrong {
			return d.Put(p, s) == api.ErrArg
		}
		m.good[p], m.now[p], m.dirty[p] = s, s, false
		return d.Put(p, s) == api.OK
	case 10:
		if p > 5 {
			return d.Bad(p, true) == api.ErrArg
		}
		m.bad[p] = r.Intn(2) == 0
		return d.Bad(p, m.bad[p]) == api.OK
	default:
		want, e := "", api.ErrArg
		switch {
		case p > 5:
		case m.off:
			e = api.ErrPower
		case m.bad[p]:
			e = api.ErrIO
		default:
			want, e = m.now[p], api.OK
		}
		got, f := d.Read(p)
		return got == want && f == e
	}
	return true
}

// TestByChance (P7.1 to P7.4): a device answers as a plain one, whatever is done to both.
func TestByChance(t *testing.T) {
	for seed := range int64(400) {
		r := rand.New(rand.NewSource(seed))
		d := made(t, 6)
		m := &plainDevice{allowed: -1, register: api.Register{Tag: strings.Repeat("\x00", 32)}}
		for p := range m.good {
			m.good[p], m.now[p] = none, none
		}
		for i := range 200 {
			if !step(r, d, m) {
				t.Fatalf("seed %d, step %d: another answer", seed, i)
			}
			if !slices.Equal(d.Image(), m.now[:]) || d.Register() != m.register || d.Blocks() != 6 {
				t.Fatalf("seed %d, step %d: another state", seed, i)
			}
		}
	}
}
