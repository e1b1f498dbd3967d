package mac

import (
	"crypto/hkdf"
	"crypto/hmac"
	"crypto/sha256"
	"encoding/hex"
	"math"
	"slices"
	"strings"
	"testing"

	"sphragis/api"
)

// mixed are n bytes, no two runs of 256 of which are the same.
func mixed(n int) string {
	b := make([]byte, n)
	for i := range b {
		b[i] = byte(i*7 + i/256)
	}
	return string(b)
}

// run are the bytes from..to, each once.
func run(from, to int) string {
	var b []byte
	for c := from; c <= to; c++ {
		b = append(b, byte(c))
	}
	return string(b)
}

// other is the mac as another implementation tells it.
func other(key, text string) string {
	h := hmac.New(sha256.New, []byte(key))
	h.Write([]byte(text))
	return string(h.Sum(nil))
}

// TestMacVectors (P3.1): the chapter's example, and RFC 4231's cases.
func TestMacVectors(t *testing.T) {
	for i, c := range []struct{ key, text, want string }{
		{
			strings.Repeat("\x0b", 20), "Hi There",
			"b0344c61d8db38535ca8afceaf0bf12b881dc200c9833da726e9376c2e32cff7",
		},
		{
			"Jefe", "what do ya want for nothing?",
			"5bdcc146bf60754e6a042426089575c75a003f089d2739839dec58b964ec3843",
		},
		{
			strings.Repeat("\xaa", 20), strings.Repeat("\xdd", 50),
			"773ea91e36800e46854db8ebd09181a72959098b3ef8c122d9635514ced565fe",
		},
		{
			run(1, 25), strings.Repeat("\xcd", 50),
			"82558a389a443c0ea4cc819899f2083a85f0faa3e578f8077a2e3ff46729665b",
		},
		{
			strings.Repeat("\xaa", 131), "Test Using Larger Than Block-Size Key - Hash Key First",
			"60e431591ee0b67f0d8a26aacbf5b77f8e0bc6213728c5140546040f0ee37f54",
		},
		{
			strings.Repeat("\xaa", 131),
			"This is a test using a larger than block-size key and a larger than block-size data. " +
				"The key needs to be hashed before being used by the HMAC algorithm.",
			"9b09ffa71b942fcb27635fbcd5b0e944bfdc63644f0713938a7f51535c3a35e2",
		},
	} {
		if got := hex.EncodeToString([]byte(Mac(c.key, c.text))); got != c.want {
			t.Errorf("case %d: %s, not %s", i, got, c.want)
		}
	}
}

// TestMacSizes (P3.1): keys of each length up to beyond two parts, texts up to beyond two.
func TestMacSizes(t *testing.T) {
	for k := range 140 {
		for n := 0; n < 140; n += 3 {
			key, text := mixed(k), mixed(n)
			if got := Mac(key, text); got != other(key, text) {
				t.Fatalf("a key of %d bytes, a text of %d: %x", k, n, got)
			}
		}
	}
}

// TestMacKeyEdges (P3.1): a key of 64 bytes is its own part, one of 65 is its sum; bytes 0 behind are the part's.
func TestMacKeyEdges(t *testing.T) {
	long := mixed(65)
	sum := sha256.Sum256([]byte(long))
	if Mac(long, "x") != Mac(string(sum[:]), "x") {
		t.Error("a key of 65 bytes isn't stood for by its sum")
	}
	whole := mixed(64)
	sum = sha256.Sum256([]byte(whole))
	if Mac(whole, "x") == Mac(string(sum[:]), "x") {
		t.Error("a key of 64 bytes is stood for by its sum")
	}
	if Mac("k", "x") != Mac("k\x00", "x") || Mac("", "x") != Mac(strings.Repeat("\x00", 64), "x") {
		t.Error("bytes 0 behind a short key make a difference")
	}
	if Mac("", "x") == Mac(strings.Repeat("\x00", 65), "x") {
		t.Error("65 bytes 0 are the empty key")
	}
}

// TestMacNothing (P3.1): no text, an empty one, and a list that is nil are one.
func TestMacNothing(t *testing.T) {
	want := other("k", "")
	var none []string
	for i, got := range []string{Mac("k"), Mac("k", ""), Mac("k", "", ""), Mac("k", none...), Mac("k", []string{}...)} {
		if got != want {
			t.Errorf("way %d: %x", i, got)
		}
	}
}

// TestMacLong (P3.1): a text longer than what a Summer takes.
func TestMacLong(t *testing.T) {
	s := strings.Repeat("0123456789abcdef", 1<<20+1)
	if Mac("k", s) != other("k", s) {
		t.Error("a text of more than 16777216 bytes")
	}
}

// TestMacKeepsTexts (P3.1, R3): the list that is handed in isn't written into, nor its spare room.
func TestMacKeepsTexts(t *testing.T) {
	room := []string{"a", "b", "c", "spare", "spare"}
	Mac("k", room[:3]...)
	if !slices.Equal(room, []string{"a", "b", "c", "spare", "spare"}) {
		t.Error(room)
	}
}

// TestCuts (P3.3): however a text is cut in three, its mac is the same.
func TestCuts(t *testing.T) {
	text := mixed(140)
	want := Mac("key", text)
	for i := range len(text) + 1 {
		for k := i; k <= len(text); k++ {
			if Mac("key", text[:i], text[i:k], text[k:]) != want {
				t.Fatalf("cut at %d and %d", i, k)
			}
		}
	}
	var single []string
	for i := range len(text) {
		single = append(single, text[i:i+1])
	}
	if Mac("key", single...) != want {
		t.Error("each byte by itself")
	}
	if Mac("key", text[70:], text[:70]) == want {
		t.Error("the texts' order makes no difference")
	}
}

// TestEqual (P3.1): the same bytes and as many.
func TestEqual(t *testing.T) {
	for _, c := range []struct {
		a, b string
		want bool
	}{
		{"", "", true},
		{"ab", "ab", true},
		{"ab", "ac", false},
		{"ab", "bb", false},
		{"ab", "ba", false},
		{"a", "ab", false},
		{"ab", "a", false},
		{"", "a", false},
		{"", "\x00", false},
		{"a", "a\x00", false},
		{"\xff\xfe", "\xff\xfe", true},
		{"\xff\xfe", "\xfe\xff", false},
	} {
		if Equal(c.a, c.b) != c.want {
			t.Errorf("%q, %q: not %v", c.a, c.b, c.want)
		}
	}
}

// TestEqualEachBit (P3.1): any one bit that is unlike, at any place, is seen.
func TestEqualEachBit(t *testing.T) {
	a := mixed(96)
	for i := range len(a) {
		for bit := range 8 {
			b := []byte(a)
			b[i] ^= 1 << bit
			if Equal(a, string(b)) || Equal(string(b), a) {
				t.Fatalf("byte %d, bit %d", i, bit)
			}
		}
	}
	// Two bytes that are unlike in the same bits don't make up for each other.
	b := []byte(a)
	b[3] ^= 0x81
	b[4] ^= 0x81
	if Equal(a, string(b)) {
		t.Error("two bytes that are unlike in the same bits")
	}
}

// TestExpandVectors (P3.2): RFC 5869's three cases.
func TestExpandVectors(t *testing.T) {
	for i, c := range []struct {
		salt, secret, label string
		n                   int
		key, want           string
	}{
		{
			run(0x00, 0x0c), strings.Repeat("\x0b", 22), run(0xf0, 0xf9), 42,
			"077709362c2e32df0ddc3f0dc47bba6390b6c73bb50f9c3122ec844ad7c2b3e5",
			"3cb25f25faacd57a90434f64d0362f2a2d2d0a90cf1a5a4c5db02d56ecc4c5bf34007208d5b887185865",
		},
		{
			run(0x60, 0xaf), run(0x00, 0x4f), run(0xb0, 0xff), 82,
			"06a6b88c5853361a06104c9ceb35b45cef760014904671014a193f40c15fc244",
			"b11e398dc80327a1c8e7f78c596a49344f012eda2d4efad8a050cc4c19afa97c" +
				"59045a99cac7827271cb41c65e590e09da3275600c2f09b8367793a9aca3db71" +
				"cc30c58179ec3e87c14c01d5c1f3434f1d87",
		},
		{
			"", strings.Repeat("\x0b", 22), "", 42,
			"19ef24a32c717b167f33a91d6f648bdf96596776afdb6377ac434c1c293ccb04",
			"8da4e775a563c18f715f802a063c5a31b8a11f5c5ee1879ec3454e5f3c738d2d9d201395faa4b61a96c8",
		},
	} {
		key := Extract(c.salt, c.secret)
		if got := hex.EncodeToString([]byte(key)); got != c.key {
			t.Errorf("case %d: the key %s, not %s", i, got, c.key)
		}
		s, e := Expand(key, c.label, c.n)
		if got := hex.EncodeToString([]byte(s)); got != c.want || e != api.OK {
			t.Errorf("case %d: %s (%d), not %s", i, got, e, c.want)
		}
	}
}

// TestExtract (P3.2): the salt is the key, the secret the text, at all lengths of either.
func TestExtract(t *testing.T) {
	for n := range 140 {
		salt, secret := mixed(n), mixed(139-n)
		if got := Extract(salt, secret); got != other(salt, secret) || got != Mac(salt, secret) {
			t.Fatalf("a salt of %d bytes: %x", n, got)
		}
	}
}

// TestExpandSizes (P3.2, P3.3): each n there is; what is expanded less is a beginning.
func TestExpandSizes(t *testing.T) {
	key, label := mixed(32), "a label"
	want, err := hkdf.Expand(sha256.New, []byte(key), label, 8160)
	if err != nil {
		t.Fatal(err)
	}
	for n := 0; n <= 8160; n++ {
		if n > 300 && n < 8000 && n%97 != 0 {
			continue
		}
		s, e := Expand(key, label, n)
		if e != api.OK || s != string(want[:n]) {
			t.Fatalf("%d bytes: %d, %d bytes", n, e, len(s))
		}
	}
}

// TestExpandKeys (P3.2): keys and labels of other sizes, none among them.
func TestExpandKeys(t *testing.T) {
	for _, key := range []string{"", "k", mixed(64), mixed(65), mixed(200)} {
		for _, label := range []string{"", "\x00", "a label", mixed(200)} {
			want, err := hkdf.Expand(sha256.New, []byte(key), label, 100)
			if err != nil {
				t.Fatal(err)
			}
			s, e := Expand(key, label, 100)
			if e != api.OK || s != string(want) {
				t.Errorf("a key of %d bytes, a label of %d: %x, %d", len(key), len(label), s, e)
			}
		}
	}
}

// TestExpandWrong (P3.2, R2): n outside 0 to 8160 is refused, and nothing told beside.
func TestExpandWrong(t *testing.T) {
	for _, n := range []int{-1, -8160, 8161, 8192, 1 << 20, math.MaxInt, math.MinInt} {
		if s, e := Expand("k", "l", n); e != api.ErrArg || s != "" {
			t.Errorf("%d: %q, %d", n, s, e)
		}
	}
}

// TestYieldedEarly: what first is fed with may end ahead of n bytes, or be left early.
func TestYieldedEarly(t *testing.T) {
	if s := first(5, slices.Values([]byte("abc"))); s != "abc" {
		t.Errorf("%q", s)
	}
	if s := first(2, slices.Values([]byte("abc"))); s != "ab" {
		t.Errorf("%q", s)
	}
	if s := first(0, filled("abc")); s != "" {
		t.Errorf("%q", s)
	}
}
