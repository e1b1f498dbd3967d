package keys

import (
	"crypto/hkdf"
	"crypto/sha256"
	"encoding/hex"
	"math"
	"slices"
	"strings"
	"testing"

	"sphragis/api"
)

// key is a right key of generation gen, with a secret of its own.
func key(gen uint32) api.Key {
	sum := sha256.Sum256([]byte{byte(gen), byte(gen >> 8), byte(gen >> 16), byte(gen >> 24)})
	return api.Key{Gen: gen, Secret: string(sum[:])}
}

// ring are right keys of these generations, in this order.
func ring(gens ...uint32) []api.Key {
	var l []api.Key
	for _, g := range gens {
		l = append(l, key(g))
	}
	return l
}

// upTo is the ring of the generations 1 to n.
func upTo(n int) []api.Key {
	var l []api.Key
	for i := range n {
		l = append(l, key(uint32(i+1)))
	}
	return l
}

// sized is a key with a secret of n bytes.
func sized(gen uint32, n int) api.Key {
	return api.Key{Gen: gen, Secret: strings.Repeat("s", n)}
}

// wrong are lists that are no right rings.
func wrong() map[string][]api.Key {
	return map[string][]api.Key{
		"generation 0":         ring(0),
		"generation 0 first":   ring(0, 1, 2),
		"generation 0 last":    ring(1, 2, 0),
		"twice":                ring(2, 2),
		"twice at the end":     ring(1, 2, 2),
		"twice at the far end": ring(1, math.MaxUint32, math.MaxUint32),
		"falling":              ring(2, 1),
		"falling at the end":   ring(1, 3, 2),
		"falling at the start": ring(3, 1, 4),
		"round the end":        ring(math.MaxUint32, 1),
		"the zero key":         {api.Key{}},
		"no secret":            {sized(1, 0)},
		"a secret too short":   {sized(1, 31)},
		"a secret too long":    {sized(1, 33)},
		"the last too short":   append(ring(1, 2), sized(3, 31)),
		"the last too long":    append(ring(1, 2), sized(3, 33)),
		"the first too long":   append([]api.Key{sized(1, 64)}, ring(2, 3)...),
		"17 keys":              upTo(17),
		"1000 keys":            upTo(1000),
	}
}

// TestRight (P4.1): what is a right ring.
func TestRight(t *testing.T) {
	for name, l := range map[string][]api.Key{
		"nil":           nil,
		"empty":         {},
		"one":           ring(1),
		"one far":       ring(math.MaxUint32),
		"with gaps":     ring(1, 3, 256, 65536, 1<<31, math.MaxUint32),
		"not from 1 on": ring(7, 8),
		"16 keys":       upTo(16),
		"one secret":    {sized(1, 32), sized(2, 32)},
		"bytes 0":       {api.Key{Gen: 1, Secret: strings.Repeat("\x00", 32)}},
		"no utf8":       {api.Key{Gen: 1, Secret: strings.Repeat("\xff", 32)}},
	} {
		if !Right(l) {
			t.Errorf("%s: not right", name)
		}
	}
	for name, l := range wrong() {
		if Right(l) {
			t.Errorf("%s: right", name)
		}
	}
	// bytes are counted, not letters
	if Right([]api.Key{{Gen: 1, Secret: strings.Repeat("é", 32)}}) || !Right([]api.Key{{Gen: 1, Secret: strings.Repeat("é", 16)}}) {
		t.Error("letters counted")
	}
}

// TestExamples (P4.1): the chapter's.
func TestExamples(t *testing.T) {
	l, e := Add(ring(1, 3), key(2))
	if e != api.OK || !slices.Equal(l, ring(1, 2, 3)) {
		t.Error(l, e)
	}
	if m, e := Add(l, key(2)); e != api.ErrRing || m != nil {
		t.Error(m, e)
	}
	if k, e := Find(l, 4); e != api.ErrKey || k != (api.Key{}) {
		t.Error(k, e)
	}
}

// TestWrongRings (P4.1, R2): each call refuses each wrong ring first, whatever else it is given.
func TestWrongRings(t *testing.T) {
	for name, l := range wrong() {
		ahead := slices.Clone(l)
		for _, gen := range []uint32{0, 1, 2, 3, 17, 2000, math.MaxUint32} {
			if m, e := Add(l, key(gen)); m != nil || e != api.ErrRing {
				t.Errorf("%s: Add of %d: %v %d", name, gen, m, e)
			}
			if m, e := Drop(l, gen); m != nil || e != api.ErrRing {
				t.Errorf("%s: Drop of %d: %v %d", name, gen, m, e)
			}
			if k, e := Find(l, gen); k != (api.Key{}) || e != api.ErrRing {
				t.Errorf("%s: Find of %d: %v %d", name, gen, k, e)
			}
		}
		if g, e := Newest(l); g != 0 || e != api.ErrRing {
			t.Errorf("%s: Newest: %d %d", name, g, e)
		}
		if !slices.Equal(l, ahead) {
			t.Errorf("%s: changed", name)
		}
	}
}

// TestAdd (P4.1): a key comes to its place, wherever that is.
func TestAdd(t *testing.T) {
	for _, c := range []struct {
		l    []api.Key
		gen  uint32
		want []api.Key
	}{
		{nil, 1, ring(1)},
		{[]api.Key{}, math.MaxUint32, ring(math.MaxUint32)},
		{ring(2, 4), 1, ring(1, 2, 4)},
		{ring(2, 4), 3, ring(2, 3, 4)},
		{ring(2, 4), 5, ring(2, 4, 5)},
		{ring(2, math.MaxUint32), math.MaxUint32 - 1, ring(2, math.MaxUint32-1, math.MaxUint32)},
		{upTo(15), 16, upTo(16)},
		{upTo(16)[1:], 1, upTo(16)},
	} {
		if l, e := Add(c.l, key(c.gen)); e != api.OK || !slices.Equal(l, c.want) {
			t.Errorf("%d: %v %d", c.gen, l, e)
		}
	}
}

// TestAddRefused (P4.1, R2): a key that the ring were not right with.
func TestAddRefused(t *testing.T) {
	for name, c := range map[string]struct {
		l []api.Key
		k api.Key
	}{
		"generation 0":          {ring(1, 3), key(0)},
		"generation 0 to none":  {nil, key(0)},
		"the zero key":          {nil, api.Key{}},
		"there at the start":    {ring(1, 2, 3), key(1)},
		"there within":          {ring(1, 2, 3), key(2)},
		"there at the end":      {ring(1, 2, 3), key(3)},
		"there, another secret": {ring(1, 2, 3), sized(2, 32)},
		"no secret":             {ring(1), sized(2, 0)},
		"too short":             {ring(1), sized(2, 31)},
		"too long":              {ring(2), sized(1, 33)},
		"a 17th behind":         {upTo(16), key(17)},
		"a 17th ahead":          {upTo(17)[1:], key(1)},
	} {
		ahead := slices.Clone(c.l)
		if l, e := Add(c.l, c.k); l != nil || e != api.ErrRing {
			t.Errorf("%s: %v %d", name, l, e)
		}
		if !slices.Equal(c.l, ahead) {
			t.Errorf("%s: changed", name)
		}
	}
}

// TestDrop (P4.1): the ring without a key, or none of that generation.
func TestDrop(t *testing.T) {
	for _, c := range []struct {
		l    []api.Key
		gen  uint32
		want []api.Key
	}{
		{ring(1), 1, nil},
		{ring(1, 2, 3), 1, ring(2, 3)},
		{ring(1, 2, 3), 2, ring(1, 3)},
		{ring(1, 2, 3), 3, ring(1, 2)},
		{ring(1, math.MaxUint32), math.MaxUint32, ring(1)},
		{upTo(16), 16, upTo(15)},
		{upTo(16), 1, upTo(16)[1:]},
	} {
		if l, e := Drop(c.l, c.gen); e != api.OK || !slices.Equal(l, c.want) {
			t.Errorf("%d: %v %d", c.gen, l, e)
		}
	}
	for _, l := range [][]api.Key{nil, {}, ring(1), ring(1, 3, 5), upTo(16)} {
		for _, gen := range []uint32{0, 2, 4, 6, 17, math.MaxUint32} {
			if slices.Contains(l, key(gen)) {
				continue
			}
			if m, e := Drop(l, gen); m != nil || e != api.ErrKey {
				t.Errorf("%d of %d: %v %d", gen, len(l), m, e)
			}
		}
	}
}

// TestFind (P4.1): each key there is, and none beside it.
func TestFind(t *testing.T) {
	for _, l := range [][]api.Key{nil, {}, ring(1), ring(2, 5, 9), ring(math.MaxUint32), upTo(16)} {
		for _, gen := range []uint32{0, 1, 2, 3, 4, 5, 8, 9, 10, 15, 16, 17, math.MaxUint32 - 1, math.MaxUint32} {
			k, e := Find(l, gen)
			if slices.Contains(l, key(gen)) {
				if e != api.OK || k != key(gen) {
					t.Errorf("%d of %d: %v %d", gen, len(l), k, e)
				}
			} else if e != api.ErrKey || k != (api.Key{}) {
				t.Errorf("%d of %d: %v %d", gen, len(l), k, e)
			}
		}
	}
}

// TestNewest (P4.1): the greatest generation, if there is any.
func TestNewest(t *testing.T) {
	for _, l := range [][]api.Key{ring(1), ring(1, 2), ring(3, 9), ring(1, math.MaxUint32), upTo(16)} {
		if g, e := Newest(l); e != api.OK || g != l[len(l)-1].Gen {
			t.Errorf("of %d: %d %d", len(l), g, e)
		}
	}
	for _, l := range [][]api.Key{nil, {}} {
		if g, e := Newest(l); e != api.ErrKey || g != 0 {
			t.Error(g, e)
		}
	}
}

// TestSubsVectors (P4.2): as openssl's kdf tells them.
func TestSubsVectors(t *testing.T) {
	var run []byte
	for i := range 32 {
		run = append(run, byte(i))
	}
	for i, c := range []struct {
		k          api.Key
		seal, bind string
	}{
		{
			api.Key{Gen: 1, Secret: strings.Repeat("k", 32)},
			"aa9ec91704afd2c7a5666ece507babbf58862bf25e65adc7dc8f75dabc77b27b",
			"12aa64b507fa4139ab5ea169406f069a15b96cab38ae9fd72c0d5070ffa0633a",
		},
		{
			api.Key{Gen: 256, Secret: strings.Repeat("\x00", 32)},
			"52e582358d03bfe7dfdca139fd167b9073785f3e30cdab6fa569de316ba39fb4",
			"0e47a07df5a7d8fbd53acf787ce872dee6c906ecc66071c7f3fa87ed2fa197fb",
		},
		{
			api.Key{Gen: 0x01020304, Secret: string(run)},
			"52afb1554a95dd2299d570dcb19888d90d2a38f8d2af39611ff055c7bebb5f81",
			"c4ace9a602f3c984ba02701359990a404bb136e7d44d751a65d46019a7e5e5d2",
		},
		{
			api.Key{Gen: math.MaxUint32, Secret: strings.Repeat("\xff", 32)},
			"ebb616a20a57eca529c8d1396453a89607f9fa97a034ed63f65057dddb110313",
			"4c1b2b5da5c78145772a83fda7750b1ecd735af416febee8f398ce0ca4f58439",
		},
	} {
		seal, bind, e := Subs(c.k)
		if e != api.OK || hex.EncodeToString([]byte(seal)) != c.seal || hex.EncodeToString([]byte(bind)) != c.bind {
			t.Errorf("case %d: %x %x %d", i, seal, bind, e)
		}
	}
}

// TestSubsOther (P4.2): against another implementation, and no two of these subkeys the same.
func TestSubsOther(t *testing.T) {
	seen := map[string]bool{}
	for _, gen := range []uint32{1, 2, 3, 255, 256, 257, 65535, 65536, 1 << 24, 1 << 31, math.MaxUint32} {
		k := key(gen)
		seal, bind, e := Subs(k)
		if e != api.OK {
			t.Error(gen, e)
		}
		four := string([]byte{byte(gen), byte(gen >> 8), byte(gen >> 16), byte(gen >> 24)})
		for use, got := range map[string]string{"seal": seal, "bind": bind} {
			want, err := hkdf.Expand(sha256.New, []byte(k.Secret), use+four, 32)
			if err != nil || got != string(want) {
				t.Errorf("%s of %d: %x, not %x", use, gen, got, want)
			}
			if seen[got] {
				t.Errorf("%s of %d: there twice", use, gen)
			}
			seen[got] = true
		}
	}
	// one secret under two generations is two keys
	a, b, _ := Subs(sized(1, 32))
	c, d, _ := Subs(sized(2, 32))
	if a == c || b == d {
		t.Error("the generation makes no difference")
	}
}

// TestSubsRefused (P4.2, R2): keys that no ring has.
func TestSubsRefused(t *testing.T) {
	for _, k := range []api.Key{{}, key(0), sized(0, 32), sized(1, 0), sized(1, 31), sized(1, 33), sized(math.MaxUint32, 64), sized(1, 100000)} {
		if seal, bind, e := Subs(k); seal != "" || bind != "" || e != api.ErrRing {
			t.Errorf("%d, %d bytes: %x %x %d", k.Gen, len(k.Secret), seal, bind, e)
		}
	}
}

// TestAddedFoundDropped (P4.3): at every place of every ring out of six generations.
func TestAddedFoundDropped(t *testing.T) {
	gens := []uint32{1, 2, 3, 1 << 16, 1 << 31, math.MaxUint32}
	for set := range 1 << len(gens) {
		var l []api.Key
		for i, g := range gens {
			if set>>i&1 == 1 {
				l = append(l, key(g))
			}
		}
		for _, g := range gens {
			if !slices.Contains(l, key(g)) {
				addedFoundDropped(t, l, g)
			}
		}
	}
	for g := uint32(1); g <= 16; g++ {
		addedFoundDropped(t, slices.Delete(upTo(16), int(g)-1, int(g)), g)
	}
}

func addedFoundDropped(t *testing.T, l []api.Key, gen uint32) {
	t.Helper()
	with, e := Add(l, key(gen))
	if e != api.OK || len(with) != len(l)+1 || !Right(with) {
		t.Fatalf("Add of %d to %v: %v %d", gen, l, with, e)
	}
	if k, e := Find(with, gen); e != api.OK || k != key(gen) {
		t.Errorf("Find of %d: %v %d", gen, k, e)
	}
	for _, other := range l {
		if k, e := Find(with, other.Gen); e != api.OK || k != other {
			t.Errorf("%d added: Find of %d: %v %d", gen, other.Gen, k, e)
		}
	}
	if back, e := Drop(with, gen); e != api.OK || !slices.Equal(back, l) {
		t.Errorf("Drop of %d: %v %d, not %v", gen, back, e, l)
	}
}

// TestMemory (R3): nothing that is handed in is written into, nor its spare room; answers are new memory.
func TestMemory(t *testing.T) {
	for _, gen := range []uint32{1, 3, 5, 7} {
		room := append(ring(2, 4, 6), ring(100, 101, 102)...)
		ahead := slices.Clone(room)
		with, e := Add(room[:3], key(gen))
		if e != api.OK || !slices.Equal(room, ahead) {
			t.Errorf("Add of %d: %v %d", gen, room, e)
		}
		overwrite(with)
		if !slices.Equal(room, ahead) {
			t.Errorf("Add of %d: memory shared", gen)
		}
	}
	for _, gen := range []uint32{2, 4, 6} {
		room := append(ring(2, 4, 6), ring(100, 101, 102)...)
		ahead := slices.Clone(room)
		without, e := Drop(room[:3], gen)
		if e != api.OK || !slices.Equal(room, ahead) {
			t.Errorf("Drop of %d: %v %d", gen, room, e)
		}
		overwrite(without)
		if !slices.Equal(room, ahead) {
			t.Errorf("Drop of %d: memory shared", gen)
		}
	}
	only := append(ring(1), ring(100)...)
	without, _ := Drop(only[:1], 1)
	overwrite(without)
	if !slices.Equal(only, ring(1, 100)) {
		t.Error("Drop of the only one: memory shared")
	}
}

// overwrite writes into all of l, and into its spare room.
func overwrite(l []api.Key) {
	l = l[:cap(l)]
	for i := range l {
		l[i] = api.Key{}
	}
}
