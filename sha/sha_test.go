package sha

import (
	"crypto/sha256"
	"encoding/hex"
	"strings"
	"testing"

	"sphragis/api"
)

// mixed are n bytes, no two runs of 256 of which are the same.
func mixed(n int) string {
	b := make([]byte, n)
	for i := range b {
		b[i] = byte(i*7 + i/256)
	}
	return string(b)
}

// other is the sum as another implementation tells it.
func other(s string) string {
	b := sha256.Sum256([]byte(s))
	return string(b[:])
}

// TestSumVectors (P2.1): the chapter's examples, and the standard's.
func TestSumVectors(t *testing.T) {
	for _, c := range []struct{ text, want string }{
		{"", "e3b0c44298fc1c149afbf4c8996fb92427ae41e4649b934ca495991b7852b855"},
		{"abc", "ba7816bf8f01cfea414140de5dae2223b00361a396177a9cb410ff61f20015ad"},
		{
			"abcdbcdecdefdefgefghfghighijhijkijkljklmklmnlmnomnopnopq",
			"248d6a61d20638b8e5c026930c3e6039a33ce45964ff2167f6ecedd419db06c1",
		},
		{
			"abcdefghbcdefghicdefghijdefghijkefghijklfghijklmghijklmnhijklmnoijklmnopjklmnopqklmnopqrlmnopqrsmnopqrstnopqrstu",
			"cf5b16a778af8380036ce59e7b0492370b249b11e8f07a51afac45037afee9d1",
		},
		{strings.Repeat("a", 1000000), "cdc76e5c9914fb9281a1c7e284d73e67f1809a48a497200e046d39ccc7112cd0"},
	} {
		if got := hex.EncodeToString([]byte(Sum(c.text))); got != c.want {
			t.Errorf("Sum of %d bytes: %s, not %s", len(c.text), got, c.want)
		}
	}
}

// TestSumSizes (P2.1): each length up to a few parts, so all ways that a text can be filled up.
func TestSumSizes(t *testing.T) {
	for n := range 400 {
		for _, s := range []string{mixed(n), strings.Repeat("\x00", n), strings.Repeat("\xff", n)} {
			if got := Sum(s); got != other(s) {
				t.Fatalf("%d bytes: %x", n, got)
			}
		}
	}
}

// TestSumAboveLimit (P2.1): the limit is a Summer's, not that of Sum and Add; the count of bits needs its fourth byte.
func TestSumAboveLimit(t *testing.T) {
	s := mixed(maxWritten + 65)
	if Sum(s) != other(s) {
		t.Error("Sum")
	}
	if Add(s[:maxWritten], s[maxWritten:]) != other(s) {
		t.Error("Add")
	}
}

// TestAdd (P2.1): texts behind each other, none and empty ones too.
func TestAdd(t *testing.T) {
	s := mixed(300)
	for _, l := range [][]string{
		nil, {}, {""}, {"", "", ""}, {"abc"}, {"a", "", "bc", ""}, {s, s, s}, {s[:64], s[64:128], s[128:]}, {s[:63], s[63:65], s[65:]},
	} {
		if got := Add(l...); got != other(strings.Join(l, "")) {
			t.Errorf("%d texts: %x", len(l), got)
		}
	}
	if Add("ab", "c") != Add("a", "bc") || Add("ab", "c") == Add("c", "ab") {
		t.Error("Add hangs on the texts behind each other, and on their order")
	}
}

// TestAddLeavesList (P2.1, R3): what is handed in is not written into, nor its spare room.
func TestAddLeavesList(t *testing.T) {
	l := []string{"a", "b", "kept", "kept"}
	Add(l[:2]...)
	if l[0] != "a" || l[1] != "b" || l[2] != "kept" || l[3] != "kept" {
		t.Error(l)
	}
}

// TestSummer (P2.2): a Summer of nothing, then Sum and Len behind each Write, which go on.
func TestSummer(t *testing.T) {
	h := New()
	if h.Sum() != other("") || h.Len() != 0 {
		t.Errorf("of nothing: %x %d", h.Sum(), h.Len())
	}
	all := ""
	for n := range 150 {
		s := mixed(n)
		if e := h.Write(s); e != api.OK {
			t.Fatal(n, e)
		}
		all += s
		if first, again := h.Sum(), h.Sum(); first != other(all) || again != first || h.Len() != len(all) {
			t.Fatalf("behind %d bytes: %x %x %d", len(all), first, again, h.Len())
		}
	}
}

// TestSummersApart (P2.2, R4): what one is told makes no difference to another.
func TestSummersApart(t *testing.T) {
	a, b := New(), New()
	for range 100 {
		a.Write("abc")
		b.Write("de")
	}
	if a.Sum() != other(strings.Repeat("abc", 100)) || b.Sum() != other(strings.Repeat("de", 100)) {
		t.Error("two Summers share what they were told")
	}
}

// TestSummerLimit (P2.2): 16777216 bytes, not one more; what is refused is as if never said.
func TestSummerLimit(t *testing.T) {
	s := mixed(maxWritten + 1)
	h := New()
	if e := h.Write(s); e != api.ErrArg || h.Len() != 0 || h.Sum() != other("") {
		t.Fatalf("at once: %d %d", e, h.Len())
	}
	if e := h.Write(s[:maxWritten-1]); e != api.OK {
		t.Fatal(e)
	}
	if e := h.Write("ab"); e != api.ErrArg || h.Len() != maxWritten-1 || h.Sum() != other(s[:maxWritten-1]) {
		t.Fatalf("one too many: %d %d", e, h.Len())
	}
	if e := h.Write(s[maxWritten-1 : maxWritten]); e != api.OK {
		t.Fatal(e)
	}
	for _, more := range []string{"a", s} {
		if e := h.Write(more); e != api.ErrArg {
			t.Errorf("behind all: %d", e)
		}
	}
	if e := h.Write(""); e != api.OK || h.Len() != 16777216 || h.Sum() != other(s[:maxWritten]) {
		t.Errorf("all: %d %d", e, h.Len())
	}
}

// TestSummerNil (P2.2): ErrNil ahead of ErrArg.
func TestSummerNil(t *testing.T) {
	var h *Summer
	for _, s := range []string{"", "a", strings.Repeat("a", maxWritten+1)} {
		if e := h.Write(s); e != api.ErrNil {
			t.Error(len(s), e)
		}
	}
	if h.Sum() != "" || h.Len() != 0 {
		t.Error(h.Sum(), h.Len())
	}
}

// TestSummerZero (R1): one that New did not give does not panic.
func TestSummerZero(t *testing.T) {
	h := new(Summer)
	if e := h.Write(mixed(100)); e != api.OK || len(h.Sum()) != 32 || h.Len() != 100 {
		t.Error(e, h.Len())
	}
}

// TestCuts (P2.3): each cut in two, and pieces of each size.
func TestCuts(t *testing.T) {
	s := mixed(259)
	want := other(s)
	for i := range len(s) + 1 {
		h := New()
		h.Write(s[:i])
		h.Write(s[i:])
		if h.Sum() != want || Add(s[:i], s[i:]) != want {
			t.Fatal("cut at", i)
		}
	}
	for size := 1; size <= len(s); size++ {
		h, l := New(), []string(nil)
		for rest := s; rest != ""; rest = rest[min(size, len(rest)):] {
			piece := rest[:min(size, len(rest))]
			h.Write(piece)
			l = append(l, piece)
		}
		if h.Sum() != want || Add(l...) != want || h.Len() != len(s) {
			t.Fatal("pieces of", size)
		}
	}
}
