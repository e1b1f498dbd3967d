package seal

import (
	"crypto/hkdf"
	"crypto/hmac"
	"crypto/sha256"
	"encoding/binary"
	"encoding/hex"
	"math"
	"slices"
	"strconv"
	"strings"
	"testing"

	"sphragis/api"
	"sphragis/arx"
)

// mixed are n bytes, no two runs of 256 of which are the same.
func mixed(n int) string {
	b := make([]byte, n)
	for i := range b {
		b[i] = byte(i*7 + i/256)
	}
	return string(b)
}

// rising are n bytes, each one more than the one ahead.
func rising(n int) string {
	b := make([]byte, n)
	for i := range b {
		b[i] = byte(i)
	}
	return string(b)
}

// falling are n bytes from ff on, each one less than the one ahead.
func falling(n int) string {
	b := make([]byte, n)
	for i := range b {
		b[i] = 0xff - byte(i)
	}
	return string(b)
}

// key is a right key of generation gen, with a secret of its own.
func key(gen uint32) api.Key {
	sum := sha256.Sum256([]byte(strconv.Itoa(int(gen))))
	return api.Key{Gen: gen, Secret: string(sum[:])}
}

// ring are right keys of these generations, in this order.
func ring(gens ...uint32) []api.Key {
	var l []api.Key
	for _, g := range gens {
		l = append(l, key(g))
	}
	return l
}

// upTo is the ring of the generations 1 to n.
func upTo(n int) []api.Key {
	var l []api.Key
	for i := range n {
		l = append(l, key(uint32(i+1)))
	}
	return l
}

// wrongRings are lists that are no right rings.
func wrongRings() map[string][]api.Key {
	return map[string][]api.Key{
		"generation 0":    ring(0, 1),
		"twice":           ring(1, 1),
		"falling":         ring(2, 1),
		"a short secret":  {{Gen: 1, Secret: strings.Repeat("s", 31)}},
		"a long secret":   {{Gen: 1, Secret: strings.Repeat("s", 33)}},
		"the last one's":  {key(1), {Gen: 2}},
		"17 keys":         upTo(17),
		"the zero key":    {{}},
		"behind the key":  ring(1, 3, 2),
		"ahead of it":     {{Secret: strings.Repeat("s", 32)}, key(1)},
		"too many by far": upTo(1000),
	}
}

// heads are some, with numbers at their edges.
func heads(gen uint32) []api.Head {
	return []api.Head{
		{Gen: gen},
		{Page: 1, Gen: gen, Boot: 2, Seq: 3},
		{Page: math.MaxUint32, Gen: gen, Boot: math.MaxUint32, Seq: math.MaxUint64},
		{Page: math.MaxUint32, Gen: gen},
		{Gen: gen, Boot: math.MaxUint32},
		{Gen: gen, Seq: math.MaxUint64},
		{Gen: gen, Seq: math.MaxUint32},
		{Gen: gen, Seq: 1 << 32},
		{Page: 1 << 31, Gen: gen, Boot: 1 << 31, Seq: 1 << 63},
		{Page: 0x04030201, Gen: gen, Boot: 0x0c0b0a09, Seq: 0x1817161514131211},
	}
}

// headBytes are a head's, as another implementation tells them.
func headBytes(h api.Head) string {
	b := binary.LittleEndian.AppendUint32(nil, h.Page)
	b = binary.LittleEndian.AppendUint32(b, h.Gen)
	b = binary.LittleEndian.AppendUint32(b, h.Boot)
	b = binary.LittleEndian.AppendUint64(b, h.Seq)
	return string(append(b, 0, 0, 0, 0))
}

// body is s filled up.
func body(s string) string {
	return string([]byte{0, byte(len(s))}) + s + strings.Repeat("\x00", 198-len(s))
}

// sub is a key's subkey, as another implementation tells it.
func sub(t *testing.T, k api.Key, use string) string {
	t.Helper()
	label := string(binary.LittleEndian.AppendUint32([]byte(use), k.Gen))
	s, err := hkdf.Expand(sha256.New, []byte(k.Secret), label, 32)
	if err != nil {
		t.Fatal(err)
	}
	return string(s)
}

// bind is s with its tag behind, whatever s is.
func bind(t *testing.T, k api.Key, s string) string {
	t.Helper()
	m := hmac.New(sha256.New, []byte(sub(t, k, "bind")))
	m.Write([]byte(s))
	return string(m.Sum([]byte(s)))
}

// made is a block of any bytes in a head's and a body's places, under the nonce that stands in the head's.
func made(t *testing.T, k api.Key, head string, body string) string {
	t.Helper()
	sealed, e := arx.Xor(sub(t, k, "seal"), head[8:20], body)
	if e != api.OK {
		t.Fatal(e)
	}
	return bind(t, k, head+sealed)
}

// with is s with another byte at i.
func with(s string, i int, c byte) string {
	return s[:i] + string([]byte{c}) + s[i+1:]
}

// sealed is Seal of what can be sealed.
func sealed(t *testing.T, l []api.Key, h api.Head, s string) string {
	t.Helper()
	b, e := Seal(l, h, s)
	if e != api.OK || len(b) != 256 {
		t.Fatalf("Seal of %+v: %x, %d", h, b, e)
	}
	return b
}

// refused tells of a b that is opened, or not with that error, or with something beside it.
func refused(t *testing.T, name string, l []api.Key, b string, want api.Errno) {
	t.Helper()
	if h, s, e := Open(l, b); h != (api.Head{}) || s != "" || e != want {
		t.Errorf("%s: %+v, %q, %d, not %d", name, h, s, e, want)
	}
}

// TestPut (P6.1): each number at its place, the least byte first, and four bytes 0.
func TestPut(t *testing.T) {
	for _, c := range []struct {
		h    api.Head
		want string
	}{
		{api.Head{}, strings.Repeat("00", 24)},
		{api.Head{Page: 1}, "01" + strings.Repeat("00", 23)},
		{api.Head{Page: 0x04030201, Gen: 0x08070605, Boot: 0x0c0b0a09, Seq: 0x14131211100f0e0d}, "0102030405060708090a0b0c0d0e0f101112131400000000"},
		{api.Head{Page: math.MaxUint32, Gen: math.MaxUint32, Boot: math.MaxUint32, Seq: math.MaxUint64}, strings.Repeat("ff", 20) + "00000000"},
		{api.Head{Seq: math.MaxUint64}, strings.Repeat("00", 12) + strings.Repeat("ff", 8) + "00000000"},
		{api.Head{Page: 258, Gen: 2, Boot: 3, Seq: 1 << 40}, "020100000200000003000000000000000001000000000000"},
	} {
		if got := hex.EncodeToString([]byte(Put(c.h))); got != c.want {
			t.Errorf("Put(%+v): %s, not %s", c.h, got, c.want)
		}
	}
}

// TestHeads (P6.1): each bit of each number is put, as another implementation puts it, and got again.
func TestHeads(t *testing.T) {
	var l []api.Head
	for bit := range 32 {
		l = append(l, api.Head{Page: 1 << bit}, api.Head{Gen: 1 << bit}, api.Head{Boot: 1 << bit})
	}
	for bit := range 64 {
		l = append(l, api.Head{Seq: 1 << bit}, api.Head{Page: 1, Gen: 2, Boot: 3, Seq: 1 << bit})
	}
	for _, gen := range []uint32{0, 1, 256, math.MaxUint32} {
		l = append(l, heads(gen)...)
	}
	for _, h := range l {
		if got := Put(h); got != headBytes(h) {
			t.Errorf("Put(%+v): %x", h, got)
		}
		if got, ok := Get(headBytes(h)); got != h || !ok {
			t.Errorf("Get of %+v: %+v, %v", h, got, ok)
		}
	}
}

// TestGetWrong (P6.1, R2): bytes of other sizes, or with another byte among the last four, are no head's.
func TestGetWrong(t *testing.T) {
	none := func(name string, s string) {
		t.Helper()
		if h, ok := Get(s); h != (api.Head{}) || ok {
			t.Errorf("%s: %+v, %v", name, h, ok)
		}
	}
	right := headBytes(api.Head{Page: 1, Gen: 2, Boot: 3, Seq: 4})
	for n := range 600 {
		if n != 24 {
			none(strconv.Itoa(n)+" bytes 0", strings.Repeat("\x00", n))
			none(strconv.Itoa(n)+" bytes", mixed(n))
		}
		if n < 24 {
			none("the first "+strconv.Itoa(n), right[:n])
			none("the last "+strconv.Itoa(n), right[24-n:])
		}
	}
	none("a byte 0 behind", right+"\x00")
	none("twice", right+right)
	for i := 20; i < 24; i++ {
		for c := 1; c < 256; c++ {
			none("a byte at "+strconv.Itoa(i), with(right, i, byte(c)))
		}
	}
}

// TestGetPut (P6.1): each other byte ahead of the last four is another head's, whose bytes these are.
func TestGetPut(t *testing.T) {
	seen := map[api.Head]bool{}
	right := headBytes(heads(9)[1])
	for i := range 20 {
		for c := range 256 {
			s := with(right, i, byte(c))
			h, ok := Get(s)
			if !ok || Put(h) != s || seen[h] && s != right {
				t.Errorf("%x: %+v, %v", s, h, ok)
			}
			seen[h] = true
		}
	}
}

// TestTag (P6.1): the last 32 bytes; all, if there are fewer.
func TestTag(t *testing.T) {
	for n := range 600 {
		s := mixed(n)
		want := s
		if n > 32 {
			want = s[n-32:]
		}
		if got := Tag(s); got != want {
			t.Errorf("Tag of %d bytes: %x", n, got)
		}
	}
	b := sealed(t, ring(1), api.Head{Gen: 1}, "some text")
	if Tag(b) != b[224:] {
		t.Errorf("Tag of a block: %x", Tag(b))
	}
}

// TestBlocks (P6.2, P6.3): whole blocks, as another implementation tells them.
func TestBlocks(t *testing.T) {
	const far = 0xf2e3d4c5
	l := []api.Key{{Gen: 1, Secret: rising(32)}, {Gen: far, Secret: falling(32)}}
	for _, c := range []struct {
		h    api.Head
		s    string
		want string
	}{
		{api.Head{Page: 0x04030201, Gen: 1, Boot: 0x0c0b0a09, Seq: 0x1817161514131211}, "some text", "0102030401000000090a0b0c1112131415161718000000009d371fd72ad170db06268be6c81804761db139c875cc912b2e12e2877bf71567dae1c61a52060d072c58ccda46daf5196224206a4e5b7e99988dfe2a0bd5d607b909a358abddc58cc2267cea12cd6154a5245db2d75115498a1ba9454008ddb308610186784eba354e1cd9c74a850e55139f328f12d12ce37e8b2d2597cbffc7fbd730d799c5b0dc535115479d7e1f6152ce42ac53b52084b28ddc906240b6edffcc3c7e1ac8fe4a776d45ceb845923923d51789c90405c8360bef5ace5e6d93b85aa35817a511a0dff07ddc06598e53ac9e7879da3aab998c9f35c69bd1916ac736cb5ab2cbdf95"},
		{api.Head{Gen: far}, "", "00000000c5d4e3f2000000000000000000000000000000002691465c578f7ec2c556b1c07ec28799e5ceb111198a1960837b9f2f8cb352992dfd51d475c9c7de985423ba1e9a9b1a9ba088f6ec8fb3f128f325ad2267bb78066b0ed4462bfe56d07b63ddff7cb1e4ef2b243c1294f63da90fd2b8e1716b6422aac952dacfd1a0aad755889126cc01bd5fe66b2be8a921655467f2aec453eb4fe5bf8da5cd346b19a71a348de3211f2cbc43e1a421df4286c2ad7e7f219e5d78eebaed8ca32f9de45f9b1acf256df4f467ae43124e4b28336fa47a67e4827aa4e8ed68e068e6ac91085faaeab2144f95701f91b317cfc23bdd3110f3926cdcc0dc2a1ea031d59f"},
		{api.Head{Page: math.MaxUint32, Gen: far, Boot: math.MaxUint32, Seq: math.MaxUint64}, mixed(198), "ffffffffc5d4e3f2ffffffffffffffffffffffff00000000e206c2d84b29d9ccc4e04ce55c082e7ee8560d651167f4db90e85f28c3bc77afd64aa0d9ef0d49653de0cc1c9e0d81456ea98e2d3d889eb89acd5d41ca7b0d5c6c7944ef2764eef9a4e3c7849db36a67ba8fbe01a4a51f719ffe0da58f43a88d6d47b5a53c20761e4bdafab0ca0a7f07d611765c85db539ee157def5cb593950338e08bc6ffc4b9b5d6c092a005bbc5a72190fb7dbef4a3402eebaa85a9ae84b2babda5111123af0f74954b248097f6a2698e798193de16f4e8803601bfb872729fa39e044a02444cb4ac70d1b0790799d1b87b23f804e488e85dc128cb0933c1a2cb8a93ccdbd85"},
	} {
		want, err := hex.DecodeString(c.want)
		if err != nil {
			t.Fatal(err)
		}
		if b, e := Seal(l, c.h, c.s); b != string(want) || e != api.OK {
			t.Errorf("Seal of %+v: %x, %d", c.h, b, e)
		}
		if h, s, e := Open(l, string(want)); h != c.h || s != c.s || e != api.OK {
			t.Errorf("Open of %+v: %+v, %x, %d", c.h, h, s, e)
		}
	}
}

// TestLengths (P6.2, P6.3, P6.4, T3): texts of every length are blocks of one size, and are opened as they were.
func TestLengths(t *testing.T) {
	l := ring(1, 7, 300)
	for n := range 199 {
		for i, s := range []string{mixed(n), strings.Repeat("\x00", n), strings.Repeat("\xff", n)} {
			h := api.Head{Page: uint32(n), Gen: l[i].Gen, Boot: uint32(i), Seq: uint64(n) << 30}
			b := sealed(t, l, h, s)
			if b != made(t, l[i], headBytes(h), body(s)) {
				t.Errorf("%d bytes: %x", n, b)
			}
			if g, back, e := Open(l, b); g != h || back != s || e != api.OK {
				t.Errorf("%d bytes: %+v, %x, %d", n, g, back, e)
			}
		}
	}
}

// TestRings (P6.2, P6.3, P6.4): under every key of rings of every size, at all heads.
func TestRings(t *testing.T) {
	for n := 1; n <= 16; n++ {
		l := upTo(n)
		l[n-1] = key(math.MaxUint32 - uint32(n))
		for _, k := range l {
			for _, h := range heads(k.Gen) {
				s := mixed(n * 12)
				b := sealed(t, l, h, s)
				if b != made(t, k, headBytes(h), body(s)) {
					t.Errorf("%d keys, %+v: %x", n, h, b)
				}
				if g, back, e := Open(l, b); g != h || back != s || e != api.OK {
					t.Errorf("%d keys, %+v: %+v, %x, %d", n, h, g, back, e)
				}
			}
		}
	}
}

// TestSealWrong (P6.2, R1, R2): wrong rings, generations that there are none of, texts that are too long; where several apply, in this order.
func TestSealWrong(t *testing.T) {
	none := func(name string, l []api.Key, gen uint32, s string, want api.Errno) {
		t.Helper()
		if b, e := Seal(l, api.Head{Page: 2, Gen: gen, Boot: 1, Seq: 1}, s); b != "" || e != want {
			t.Errorf("%s: %x, %d, not %d", name, b, e, want)
		}
	}
	long := strings.Repeat("x", 199)
	for name, l := range wrongRings() {
		for _, gen := range []uint32{0, 1, 99} {
			none(name, l, gen, "", api.ErrRing)
			none(name+", too long", l, gen, long, api.ErrRing)
		}
	}
	for _, gen := range []uint32{0, 1, 3, 5, math.MaxUint32} {
		for _, s := range []string{"", "ab", long} {
			none("generation "+strconv.Itoa(int(gen)), ring(2, 4), gen, s, api.ErrKey)
			none("no keys", nil, gen, s, api.ErrKey)
			none("no keys either", []api.Key{}, gen, s, api.ErrKey)
		}
	}
	for _, n := range []int{199, 200, 256, 65536, 65538, 1<<20 + 1} {
		none(strconv.Itoa(n)+" bytes", ring(2, 4), 4, mixed(n), api.ErrPad)
	}
	none("100 letters of two bytes", ring(2, 4), 2, strings.Repeat("é", 100), api.ErrPad)
}

// TestOpenRing (P6.3, R1): a wrong ring is told ahead of all else.
func TestOpenRing(t *testing.T) {
	b := sealed(t, ring(1), api.Head{Gen: 1}, "some text")
	for name, l := range wrongRings() {
		for _, x := range []string{b, "", b[1:], with(b, 23, 1), with(b, 4, 99), with(b, 255, b[255]^1)} {
			refused(t, name, l, x, api.ErrRing)
		}
	}
}

// TestOpenSizes (P6.3): what has not 256 bytes is no block, whatever it begins with.
func TestOpenSizes(t *testing.T) {
	l := ring(1, 2)
	b := sealed(t, l, api.Head{Gen: 2, Seq: 5}, "some text")
	strange := with(b, 4, 99)
	for n := range 600 {
		if n == 256 {
			continue
		}
		for _, ring := range [][]api.Key{l, nil} {
			refused(t, strconv.Itoa(n)+" bytes 0", ring, strings.Repeat("\x00", n), api.ErrIntegrity)
			refused(t, strconv.Itoa(n)+" bytes", ring, mixed(n), api.ErrIntegrity)
		}
		if n < 256 {
			refused(t, "the first "+strconv.Itoa(n), l, b[:n], api.ErrIntegrity)
			refused(t, "the last "+strconv.Itoa(n), l, b[256-n:], api.ErrIntegrity)
			refused(t, "of a strange generation", l, strange[:n], api.ErrIntegrity)
		}
	}
	refused(t, "a byte 0 behind", l, b+"\x00", api.ErrIntegrity)
	refused(t, "twice", l, b+b, api.ErrIntegrity)
	head := headBytes(api.Head{Gen: 2})
	for _, n := range []int{0, 198, 199, 201, 400} {
		refused(t, "a right tag, and "+strconv.Itoa(n)+" bytes", l, made(t, l[1], head, (body("ab") + mixed(200))[:n]), api.ErrIntegrity)
	}
}

// TestOpenHead (P6.3): bytes of no head are told ahead of a generation that there is no key of, and though the tag is theirs.
func TestOpenHead(t *testing.T) {
	l := ring(1, 2)
	for _, h := range heads(2) {
		for i := 20; i < 24; i++ {
			for _, c := range []byte{1, 0x80, 0xff} {
				x := made(t, l[1], with(headBytes(h), i, c), body("some text"))
				refused(t, "a byte at "+strconv.Itoa(i), l, x, api.ErrIntegrity)
				refused(t, "and no key", l[:1], x, api.ErrIntegrity)
				refused(t, "and none at all", nil, x, api.ErrIntegrity)
			}
		}
	}
}

// TestOpenKey (P6.3): a generation that the ring has no key of is told ahead of a tag that is another one's.
func TestOpenKey(t *testing.T) {
	for _, gen := range []uint32{0, 1, 3, 5, 0x02000000, math.MaxUint32} {
		k := key(gen)
		for _, h := range heads(gen) {
			b := made(t, k, headBytes(h), body("some text"))
			for _, l := range [][]api.Key{nil, {}, ring(2), ring(2, 4)} {
				refused(t, "generation "+strconv.Itoa(int(gen)), l, b, api.ErrKey)
				refused(t, "and another tag", l, with(b, 255, b[255]^1), api.ErrKey)
				refused(t, "and no body", l, made(t, k, headBytes(h), strings.Repeat("\xff", 200)), api.ErrKey)
			}
		}
	}
	refused(t, "all bytes 0", ring(1), strings.Repeat("\x00", 256), api.ErrKey)
}

// TestOpenBody (P6.3): what is bound rightly, but is the body of no text, is no block.
func TestOpenBody(t *testing.T) {
	l := ring(1, 2)
	head := headBytes(heads(1)[1])
	whole := body("some text")
	for name, x := range map[string]string{
		"a filling of another byte": with(whole, 11, 1),
		"another last byte":         with(whole, 199, 1),
		"a length too small":        with(whole, 1, 8),
		"a length of 199":           with(whole, 1, 199),
		"a length of 256 and more":  with(whole, 0, 1),
		"all bytes ff":              strings.Repeat("\xff", 200),
	} {
		refused(t, name, l, made(t, l[0], head, x), api.ErrIntegrity)
	}
	refused(t, "a body that is not sealed", l, bind(t, l[0], head+whole), api.ErrIntegrity)
}

// TestOpenBits (P6.3, P6.4): a block, one bit of which is another one, is none, and an error is told: ErrKey, if that makes a generation that there is no key of.
func TestOpenBits(t *testing.T) {
	l := ring(2, 3, 4)
	for _, s := range []string{"", "some text", mixed(198)} {
		b := sealed(t, l, api.Head{Page: 7, Gen: 2, Boot: 1, Seq: 9}, s)
		for bit := range 256 * 8 {
			x := with(b, bit/8, b[bit/8]^1<<(bit%8))
			want := api.ErrIntegrity
			if bit >= 32 && bit < 64 && bit != 32 { // generation 3 is there
				want = api.ErrKey
			}
			refused(t, "bit "+strconv.Itoa(bit), l, x, want)
		}
	}
}

// TestOpenBytes (P6.3): each other byte at each place.
func TestOpenBytes(t *testing.T) {
	l := ring(1)
	b := sealed(t, l, api.Head{Page: 7, Gen: 1, Boot: 1, Seq: 9}, "some text")
	for i := range 256 {
		for c := range 256 {
			if byte(c) == b[i] {
				continue
			}
			want := api.ErrIntegrity
			if i >= 4 && i < 8 {
				want = api.ErrKey
			}
			refused(t, "byte "+strconv.Itoa(i), l, with(b, i, byte(c)), want)
		}
	}
}

// TestOpenMixed (P6.3): parts of two blocks are none.
func TestOpenMixed(t *testing.T) {
	l := ring(1, 2)
	a := sealed(t, l, api.Head{Page: 7, Gen: 1, Boot: 1, Seq: 9}, "some text")
	for name, b := range map[string]string{
		"page":       sealed(t, l, api.Head{Page: 8, Gen: 1, Boot: 1, Seq: 9}, "some text"),
		"start":      sealed(t, l, api.Head{Page: 7, Gen: 1, Boot: 2, Seq: 9}, "some text"),
		"seal":       sealed(t, l, api.Head{Page: 7, Gen: 1, Boot: 1, Seq: 8}, "some text"),
		"generation": sealed(t, l, api.Head{Page: 7, Gen: 2, Boot: 1, Seq: 9}, "some text"),
	} {
		refused(t, "another "+name+"'s head", l, b[:24]+a[24:], api.ErrIntegrity)
		refused(t, "another "+name+"'s tag", l, a[:224]+b[224:], api.ErrIntegrity)
	}
	b := sealed(t, l, api.Head{Page: 7, Gen: 1, Boot: 1, Seq: 9}, "some more")
	refused(t, "another text's body", l, a[:24]+b[24:224]+a[224:], api.ErrIntegrity)
	refused(t, "no tag", l, a[:224]+strings.Repeat("\x00", 32), api.ErrIntegrity)
	refused(t, "a sum for a tag", l, a[:224]+sum(a[:224]), api.ErrIntegrity)
}

// sum is what anybody can make of s without a key.
func sum(s string) string {
	b := sha256.Sum256([]byte(s))
	return string(b[:])
}

// TestOpenOtherSecret (P6.3): a key of the same generation that another secret is of opens nothing.
func TestOpenOtherSecret(t *testing.T) {
	b := sealed(t, ring(1, 2), api.Head{Gen: 2}, "some text")
	other := []api.Key{key(1), {Gen: 2, Secret: key(1).Secret}}
	refused(t, "another secret", other, b, api.ErrIntegrity)
	near := key(2)
	near.Secret = with(near.Secret, 31, near.Secret[31]^1)
	refused(t, "a secret next to it", []api.Key{near}, b, api.ErrIntegrity)
	if h, s, e := Open(ring(2, 9), b); h != (api.Head{Gen: 2}) || s != "some text" || e != api.OK {
		t.Error("other keys around it make a difference", h, s, e)
	}
}

// TestSubkeys (P6.2): what is sealed and what binds are under unlike subkeys.
func TestSubkeys(t *testing.T) {
	k := key(1)
	h := api.Head{Gen: 1}
	b := sealed(t, []api.Key{k}, h, "some text")
	turned, e := arx.Xor(sub(t, k, "bind"), strings.Repeat("\x00", 12), body("some text"))
	if e != api.OK || b[24:224] == turned {
		t.Error("the body is under the subkey that binds", e)
	}
	m := hmac.New(sha256.New, []byte(sub(t, k, "seal")))
	m.Write([]byte(b[:224]))
	if b[224:] == string(m.Sum(nil)) {
		t.Error("the tag is under the subkey that seals")
	}
}

// TestStreams (P6.2, T3): each generation, start and number has a stream of its own; the page has none.
func TestStreams(t *testing.T) {
	l := ring(1, 2, 256, 65536)
	seen := map[string]api.Head{}
	var all []api.Head
	for _, k := range l {
		all = append(all, api.Head{Gen: k.Gen})
		for bit := range 32 {
			all = append(all, api.Head{Gen: k.Gen, Boot: 1 << bit})
		}
		for bit := range 64 {
			all = append(all, api.Head{Gen: k.Gen, Seq: 1 << bit})
		}
	}
	for _, h := range all {
		stream := sealed(t, l, h, "")[24:224]
		if other, ok := seen[stream]; ok {
			t.Errorf("%+v and %+v have one stream", h, other)
		}
		seen[stream] = h
		h.Page = 77
		if sealed(t, l, h, "")[24:224] != stream {
			t.Errorf("%+v: its page makes a difference", h)
		}
	}
}

// TestHeadsTell (T3): the head hangs on no text.
func TestHeadsTell(t *testing.T) {
	h := api.Head{Page: 7, Gen: 1, Boot: 1, Seq: 9}
	for n := range 199 {
		if b := sealed(t, ring(1), h, mixed(n)); b[:24] != Put(h) {
			t.Errorf("%d bytes: %x", n, b[:24])
		}
	}
}

// TestAgain (P6.4, R4): a block that is opened is the one that its head and its text are sealed to, each time.
func TestAgain(t *testing.T) {
	l := ring(1, 5)
	opened := 0
	for n := range 199 {
		for _, k := range l {
			head := headBytes(api.Head{Page: uint32(n * n), Gen: k.Gen, Boot: uint32(n), Seq: uint64(n)})
			for _, x := range []string{body(mixed(n)), with(body(mixed(n)), 1, byte(n+1)), with(body(mixed(n)), 199, 0)} {
				b := made(t, k, head, x)
				h, s, e := Open(l, b)
				if e != api.OK {
					continue
				}
				opened++
				if again, e := Seal(l, h, s); again != b || e != api.OK {
					t.Errorf("%d bytes: %x, not %x, %d", n, again, b, e)
				}
			}
		}
	}
	if want := 2*3*199 - 2; opened != want { // a length of 199 is no text's
		t.Errorf("%d were opened, not %d", opened, want)
	}
}

// TestGiven (R3): a ring that is handed in stays as it is, its spare room too.
func TestGiven(t *testing.T) {
	room := upTo(8)
	l := room[:3]
	b := sealed(t, l, api.Head{Gen: 2}, "some text")
	if _, _, e := Open(l, b); e != api.OK {
		t.Error(e)
	}
	refused(t, "a key in the spare room", l, sealed(t, room, api.Head{Gen: 4}, ""), api.ErrKey)
	if !slices.Equal(room, upTo(8)) {
		t.Error("the ring was written into")
	}
}
