package pad

import (
	"strconv"
	"strings"
	"testing"

	"sphragis/api"
)

// run is a text of n bytes in which no byte is the same as the next one, and no part the same as the one behind it.
func run(n int) string {
	b := make([]byte, n)
	for i := range b {
		b[i] = byte(i*7 + i/256 + 1)
	}
	return string(b)
}

// texts are of n bytes each, and of several kinds.
func texts(n int) []string {
	return []string{
		run(n),
		strings.Repeat("a", n),
		strings.Repeat("\x00", n),
		strings.Repeat("\xff", n),
		strings.Repeat("é", n/2) + strings.Repeat("\xc3", n%2),
	}
}

// filled is s behind its length's two bytes, and bytes 0 up to 200.
func filled(high, low byte, s string) string {
	return string([]byte{high, low}) + s + strings.Repeat("\x00", 198-len(s))
}

// with is b with another byte at i.
func with(b string, i int, c byte) string {
	return b[:i] + string([]byte{c}) + b[i+1:]
}

// refused tells of a b that Unpad takes for a body, or beside whose error something is answered.
func refused(t *testing.T, name string, b string) {
	t.Helper()
	if s, e := Unpad(b); s != "" || e != api.ErrPad {
		t.Errorf("%s: %q %d", name, s, e)
	}
}

// TestExample (P5.1): the chapter's.
func TestExample(t *testing.T) {
	want := "\x00\x02\x61\x62" + strings.Repeat("\x00", 196)
	if b, e := Pad("ab"); b != want || e != api.OK {
		t.Errorf("%x %d", b, e)
	}
	if s, e := Unpad(want); s != "ab" || e != api.OK {
		t.Errorf("%q %d", s, e)
	}
}

// TestBodies (P5.1): of texts of every length, and back.
func TestBodies(t *testing.T) {
	for n := range 199 {
		for _, s := range texts(n) {
			b, e := Pad(s)
			if e != api.OK || b != filled(0, byte(n), s) {
				t.Errorf("%d bytes: %x %d", n, b, e)
			}
			if back, e := Unpad(b); back != s || e != api.OK {
				t.Errorf("%d bytes: %x %d", n, back, e)
			}
		}
	}
}

// TestTooLong (P5.1, R2): more than 198 bytes, those too whose length two bytes would tell as a small one.
func TestTooLong(t *testing.T) {
	for _, n := range []int{199, 200, 201, 255, 256, 257, 400, 65535, 65536, 65538, 65536 + 198, 1 << 24} {
		for _, s := range []string{strings.Repeat("a", n), strings.Repeat("\x00", n)} {
			if b, e := Pad(s); b != "" || e != api.ErrPad {
				t.Errorf("%d bytes: %x %d", n, b, e)
			}
		}
	}
	// bytes are counted, not letters
	if _, e := Pad(strings.Repeat("é", 100)); e != api.ErrPad {
		t.Error("letters counted", e)
	}
	if _, e := Pad(strings.Repeat("é", 99)); e != api.OK {
		t.Error("99 letters of two bytes", e)
	}
}

// TestSizes (P5.1, R1): what has not 200 bytes is no body.
func TestSizes(t *testing.T) {
	whole := filled(0, 2, "ab")
	for n := range 600 {
		if n != 200 {
			refused(t, strconv.Itoa(n)+" bytes", strings.Repeat("\x00", n))
			refused(t, strconv.Itoa(n)+" bytes of a run", run(n))
		}
		if n < 200 {
			refused(t, "the first "+strconv.Itoa(n), whole[:n])
			refused(t, "the last "+strconv.Itoa(n), whole[200-n:])
		}
	}
	refused(t, "a byte 0 behind", whole+"\x00")
	refused(t, "twice", whole+whole)
}

// TestLengths (P5.1): of all lengths that two bytes can tell, those up to 198 are told with a text, the greater byte first.
func TestLengths(t *testing.T) {
	for n := range 65536 {
		b := filled(byte(n>>8), byte(n), "")
		s, e := Unpad(b)
		if n <= 198 && (e != api.OK || s != strings.Repeat("\x00", n)) || n > 198 && (e != api.ErrPad || s != "") {
			t.Errorf("%d: %q %d", n, s, e)
		}
	}
	refused(t, "the least byte first", filled(2, 0, "ab"))
	refused(t, "199, and 198 bytes", filled(0, 199, run(198)))
	refused(t, "65535, and 198 bytes", filled(255, 255, run(198)))
}

// TestFilling (P5.1): behind the text all bytes are 0.
func TestFilling(t *testing.T) {
	for n := range 199 {
		b := filled(0, byte(n), run(n))
		for i := n + 2; i < 200; i++ {
			for _, c := range []byte{1, 0x80, 0xff} {
				refused(t, strconv.Itoa(n)+" bytes, another one at "+strconv.Itoa(i), with(b, i, c))
			}
		}
	}
	// a length that is too small leaves some of the text among the filling
	for n := range 198 {
		refused(t, "told as "+strconv.Itoa(n), filled(0, byte(n), strings.Repeat("a", n+1)))
	}
}

// TestCut (P5.2): at every length up to several parts, each part in its place.
func TestCut(t *testing.T) {
	for n := range 1200 {
		for _, s := range texts(n) {
			cutRight(t, s)
		}
	}
	for _, n := range []int{198 * 1000, 198*1000 - 1, 198*1000 + 1, 1 << 20, 10000019} {
		cutRight(t, run(n))
	}
}

// cutRight holds each part of s against its place in s.
func cutRight(t *testing.T, s string) {
	t.Helper()
	l := Cut(s)
	if len(l) != (len(s)+197)/198 {
		t.Fatalf("%d bytes: %d parts", len(s), len(l))
	}
	for i, p := range l {
		if p != s[i*198:min((i+1)*198, len(s))] {
			t.Fatalf("%d bytes: part %d: %x", len(s), i, p)
		}
	}
}

// TestCutEdges (P5.2): no part is empty, and none is there of nothing.
func TestCutEdges(t *testing.T) {
	if l := Cut(""); len(l) != 0 {
		t.Error(l)
	}
	for _, c := range []struct {
		n    int
		want []int
	}{
		{1, []int{1}},
		{197, []int{197}},
		{198, []int{198}},
		{199, []int{198, 1}},
		{395, []int{198, 197}},
		{396, []int{198, 198}},
		{397, []int{198, 198, 1}},
		{594, []int{198, 198, 198}},
	} {
		l := Cut(strings.Repeat("a", c.n))
		if len(l) != len(c.want) {
			t.Fatalf("%d bytes: %d parts", c.n, len(l))
		}
		for i, p := range l {
			if len(p) != c.want[i] {
				t.Errorf("%d bytes: part %d has %d", c.n, i, len(p))
			}
		}
	}
}

// TestCutMemory (R3): what is done to one answer's list is not seen in another one's.
func TestCutMemory(t *testing.T) {
	s := run(500)
	l := Cut(s)
	l = l[:cap(l)]
	for i := range l {
		l[i] = "x"
	}
	cutRight(t, s)
}

// TestOneToOne (P5.3): unlike texts have unlike bodies.
func TestOneToOne(t *testing.T) {
	seen := map[string]string{}
	for n := range 199 {
		for _, s := range append(texts(n), "a"+strings.Repeat("\x00", max(n-1, 0))) {
			b, e := Pad(s)
			if e != api.OK {
				t.Fatal(n, e)
			}
			if other, ok := seen[b]; ok && other != s {
				t.Errorf("%x and %x have one body", s, other)
			}
			seen[b] = s
		}
	}
}

// TestOneToOneBack (P5.3): what is next to a body, in one byte, is no body, or that of another text.
func TestOneToOneBack(t *testing.T) {
	for _, n := range []int{0, 1, 2, 99, 196, 197, 198} {
		for _, s := range texts(n) {
			b, _ := Pad(s)
			for i := range 200 {
				for c := range 256 {
					if byte(c) != b[i] {
						nextTo(t, s, with(b, i, byte(c)))
					}
				}
			}
		}
	}
}

// nextTo holds against itself what Unpad makes of b, which is not the body of s.
func nextTo(t *testing.T, s string, b string) {
	t.Helper()
	other, e := Unpad(b)
	if e != api.OK {
		if e != api.ErrPad || other != "" {
			t.Fatalf("%x: %x %d", b, other, e)
		}
		return
	}
	if again, e := Pad(other); other == s || again != b || e != api.OK {
		t.Fatalf("%x: %x %d", b, other, e)
	}
}

// TestCutPadded (P5.1, P5.2): every part that a text is cut into has a body, and they make the text again.
func TestCutPadded(t *testing.T) {
	for n := range 800 {
		var back strings.Builder
		for _, p := range Cut(run(n)) {
			b, e := Pad(p)
			if e != api.OK || len(b) != 200 {
				t.Fatalf("%d bytes: %x %d", n, b, e)
			}
			q, e := Unpad(b)
			if e != api.OK {
				t.Fatal(n, e)
			}
			back.WriteString(q)
		}
		if back.String() != run(n) {
			t.Errorf("%d bytes: not the same again", n)
		}
	}
}
