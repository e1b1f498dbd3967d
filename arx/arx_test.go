package arx

import (
	"crypto/sha256"
	"encoding/hex"
	"strings"
	"testing"

	"sphragis/api"
)

// rising are n bytes, each one more than the one ahead.
func rising(n int) string {
	b := make([]byte, n)
	for i := range b {
		b[i] = byte(i)
	}
	return string(b)
}

// falling are n bytes from ff on, each one less than the one ahead.
func falling(n int) string {
	b := make([]byte, n)
	for i := range b {
		b[i] = 0xff - byte(i)
	}
	return string(b)
}

// mixed are n bytes, no two runs of 256 of which are the same.
func mixed(n int) string {
	b := make([]byte, n)
	for i := range b {
		b[i] = byte(i*7 + i/256)
	}
	return string(b)
}

func bytesOf(t *testing.T, digits string) string {
	t.Helper()
	b, err := hex.DecodeString(digits)
	if err != nil {
		t.Fatal(err)
	}
	return string(b)
}

const (
	rfcNonce   = "\x00\x00\x00\x09\x00\x00\x00\x4a\x00\x00\x00\x00"
	otherNonce = "\xa1\xb2\xc3\xd4\xe5\xf6\x07\x18\x29\x3a\x4b\x5c"
)

// TestQuarter (P1.1): the example of the chapter, that of RFC 8439, section 2.2.1, and sums that go round.
func TestQuarter(t *testing.T) {
	for _, c := range []struct{ in, want [4]uint32 }{
		{[4]uint32{0x11111111, 0x01020304, 0x9b8d6f43, 0x01234567}, [4]uint32{0xea2a92f4, 0xcb1cf8ce, 0x4581472e, 0x5881c4bb}},
		{[4]uint32{0x516461b1, 0x2a5f714c, 0x53372767, 0x3d631689}, [4]uint32{0xbdb886dc, 0xcfacafd2, 0xe46bea80, 0xccc07c79}},
		{[4]uint32{}, [4]uint32{}},
		{[4]uint32{0xffffffff, 1, 0, 0}, [4]uint32{0x00001000, 0x08080000, 0x00100000, 0x00100000}},
		{[4]uint32{0xffffffff, 1, 0xffffffff, 0xfffeffff}, [4]uint32{0xffffcfff, 0xe7e7817f, 0x003000fd, 0x00300100}},
	} {
		if got := Quarter(c.in[0], c.in[1], c.in[2], c.in[3]); got != c.want {
			t.Errorf("Quarter of %08x: %08x, not %08x", c.in, got, c.want)
		}
	}
}

// TestBlock (P1.1): the chapter's example whole (RFC 8439, section 2.3.2), the first of the RFC's appendix A.1, and counters whose bytes all count; the last two are what another implementation tells.
func TestBlock(t *testing.T) {
	for _, c := range []struct {
		key     string
		counter uint32
		nonce   string
		want    string
	}{
		{rising(32), 1, rfcNonce, "10f1e7e4d13b5915500fdd1fa32071c4c7d1f4c733c068030422aa9ac3d46c4ed2826446079faa0914c2d705d98b02a2b5129cd1de164eb9cbd083e8a2503c4e"},
		{strings.Repeat("\x00", 32), 0, strings.Repeat("\x00", 12), "76b8e0ada0f13d90405d6ae55386bd28bdd219b8a08ded1aa836efcc8b770dc7da41597c5157488d7724e03fb8d84a376a43b8f41518a11cc387b669b2ee6586"},
		{falling(32), 0x80000100, otherNonce, "2f8ecee2572368655a2f2e71944b196405f43d73388030082e5de32684b31f805112649659e0854ca9ffb4f45f7abf994f3be44ef80747283aa162b1371f9b65"},
		{falling(32), 0xffffffff, otherNonce, "36fa190d64bc1844b45cb046608f29c2ec4f8201a5d25f69271b2cc3257a535f3745e29baf59e7b17589c03a32e568e2b517474755f5359e180bf454f2d9f6dc"},
	} {
		got, e := Block(c.key, c.counter, c.nonce)
		if e != api.OK || hex.EncodeToString([]byte(got)) != c.want {
			t.Errorf("Block of the counter %08x: %x, %v, not %s", c.counter, got, e, c.want)
		}
	}
}

// wrongSizes calls f with keys and nonces around their sizes, and tells which of them fit.
func wrongSizes(f func(key, nonce string, fits bool)) {
	for _, k := range []int{0, 1, 12, 16, 31, 32, 33, 64} {
		for _, n := range []int{0, 1, 8, 11, 12, 13, 24, 32} {
			f(rising(k), rising(n), k == 32 && n == 12)
		}
	}
}

// TestBlockSizes (P1.1): a key of 32 bytes and a nonce of 12, and no others.
func TestBlockSizes(t *testing.T) {
	wrongSizes(func(key, nonce string, fits bool) {
		got, e := Block(key, 7, nonce)
		if fits && (e != api.OK || len(got) != 64) || !fits && (e != api.ErrArg || got != "") {
			t.Errorf("Block of a key of %d and a nonce of %d bytes: %x, %v", len(key), len(nonce), got, e)
		}
	})
}

// TestXor (P1.2): texts up to a block's end, to it, and past it, as another implementation tells them.
func TestXor(t *testing.T) {
	want := bytesOf(t, "781643a4cdb6745642b1117a608a9eebb3d8026767fa188179bcab6a572eddf5cd04024df7518238901908aa2f4d1e6a781d5570a956cb96407dc122f67e2f0dbc35650578af6c522755479035ec75cecf57cd011779955eed2dbe0b3fd2c4352c49d9200b95e250f6317d4a7af09c6411bc237ffba40cf602e172b6f9ec268e9536")
	for _, n := range []int{0, 1, 3, 4, 5, 63, 64, 65, 127, 128, 129, 130} {
		got, e := Xor(falling(32), otherNonce, mixed(n))
		if e != api.OK || got != want[:n] {
			t.Errorf("Xor of %d bytes: %x, %v, not %x", n, got, e, want[:n])
		}
	}
}

// TestXorLong (P1.2): texts up to the greatest that there may be, by their sums, as another implementation tells them.
func TestXorLong(t *testing.T) {
	for _, c := range []struct {
		n    int
		want string
	}{
		{4096, "1651ead1f367e6c5e980566367c7772c3bd4d65579666f0ec4073ea8c1d2140b"},
		{16384, "bb9a085ee85c2a6b1d986d1a9525e9a79f8ec8bf71be230988d682989fa115fd"},
		{1048575, "7b925be8e8cad21f641ced05b4c727d029d1c9dd952518157e5861d55a170847"},
		{1048576, "0df32941aad4f1351e809c33fe1f59171e99015e1c7bff87a50e223683555681"},
	} {
		got, e := Xor(falling(32), otherNonce, mixed(c.n))
		sum := sha256.Sum256([]byte(got))
		if e != api.OK || len(got) != c.n || hex.EncodeToString(sum[:]) != c.want {
			t.Errorf("Xor of %d bytes: %d bytes of the sum %x, %v", c.n, len(got), sum, e)
		}
	}
}

// TestXorWrong (P1.2): keys and nonces of other sizes, and a text that is too long, are refused, and nothing stands beside the error.
func TestXorWrong(t *testing.T) {
	for _, s := range []string{"", "some text", mixed(api.MaxText + 1)} {
		wrongSizes(func(key, nonce string, fits bool) {
			fits = fits && len(s) <= api.MaxText
			got, e := Xor(key, nonce, s)
			if fits && (e != api.OK || len(got) != len(s)) || !fits && (e != api.ErrArg || got != "") {
				t.Errorf("Xor of a key of %d, a nonce of %d and a text of %d bytes: %d bytes, %v", len(key), len(nonce), len(s), len(got), e)
			}
		})
	}
}

// TestXorIsBlocks (P1.2): the stream are the blocks of the counters 0, 1, 2, .., behind each other.
func TestXorIsBlocks(t *testing.T) {
	const blocks = 300 // past the counter's first byte
	got, e := Xor(rising(32), rfcNonce, strings.Repeat("\x00", blocks*64))
	if e != api.OK {
		t.Fatal(e)
	}
	for i := range blocks {
		b, e := Block(rising(32), uint32(i), rfcNonce)
		if e != api.OK || got[i*64:i*64+64] != b {
			t.Fatalf("block %d: %x, not %x, %v", i, got[i*64:i*64+64], b, e)
		}
	}
}

// TestXorTwice (P1.3): what was done twice is as it was.
func TestXorTwice(t *testing.T) {
	for _, n := range []int{0, 1, 63, 64, 65, 1000, api.MaxText} {
		s := mixed(n)
		once, e := Xor(rising(32), otherNonce, s)
		twice, f := Xor(rising(32), otherNonce, once)
		if e != api.OK || f != api.OK || twice != s {
			t.Errorf("a text of %d bytes is not as it was: %v, %v", n, e, f)
		}
		if n >= 63 && once == s {
			t.Errorf("a text of %d bytes is as it was behind one Xor", n)
		}
	}
}

// TestXorBeginnings (P1.3): a beginning of what comes out is what comes of the beginning.
func TestXorBeginnings(t *testing.T) {
	s := mixed(200)
	whole, e := Xor(falling(32), rfcNonce, s)
	if e != api.OK {
		t.Fatal(e)
	}
	for n := range len(s) + 1 {
		got, e := Xor(falling(32), rfcNonce, s[:n])
		if e != api.OK || got != whole[:n] {
			t.Errorf("what comes of %d bytes: %x, %v, not %x", n, got, e, whole[:n])
		}
	}
}

// TestStreamsDiffer (P1.1, P1.2): each bit of a key, a counter and a nonce makes a difference.
func TestStreamsDiffer(t *testing.T) {
	seen := map[string]bool{}
	note := func(key string, counter uint32, nonce string) {
		b, e := Block(key, counter, nonce)
		if e != api.OK || seen[b] {
			t.Errorf("Block(%x, %08x, %x): %x, %v is not new", key, counter, nonce, b, e)
		}
		seen[b] = true
	}
	note(rising(32), 5, otherNonce)
	for bit := range 8 * 32 {
		note(flipped(rising(32), bit), 5, otherNonce)
	}
	for bit := range 32 {
		note(rising(32), 5^1<<bit, otherNonce)
	}
	for bit := range 8 * 12 {
		note(rising(32), 5, flipped(otherNonce, bit))
	}
}

// flipped is s with one bit turned over.
func flipped(s string, bit int) string {
	b := []byte(s)
	b[bit/8] ^= 1 << (bit % 8)
	return string(b)
}
