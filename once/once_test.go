package once_test

import (
	"bytes"
	"crypto/sha256"
	"crypto/sha3"
	"encoding/binary"
	"fmt"
	"math"
	"slices"
	"strconv"
	"testing"

	"tearoff/api"
	"tearoff/chain"
	"tearoff/digits"
	"tearoff/once"
	"tearoff/rows"
	"tearoff/sets"
)

// sizes are the bytes of a signature of each set, in the order of their codes, from 1 on.
var sizes = []int{
	8516, 4292, 2180, 1124, 4828, 2452, 1252, 652,
	8516, 4292, 2180, 1124, 4828, 2452, 1252, 652,
}

// means are what the answers are laid out with here: what sums, and what tells all digits.
type means struct {
	sum    func(kind, n int, b []byte) []byte
	digits func(o api.Ots, b []byte) []int
}

// byLayers are the layers 9 and 7, byOthers are Go's own sums, and digits read off a number's bits.
var (
	byLayers = means{
		func(kind, n int, b []byte) []byte { return chain.Sum(kind, n, b) },
		func(o api.Ots, b []byte) []int { return digits.All(b, o.W) },
	}
	byOthers = means{otherSum, otherDigits}
	allMeans = []means{byLayers, byOthers}
)

// otherSum: the sum of a text, by others.
func otherSum(kind, n int, b []byte) []byte {
	if kind == 1 {
		return sha3.SumSHAKE256(b, n)
	}
	s := sha256.Sum256(b)
	return s[:n]
}

// otherDigits: all digits of bytes, read off their bits.
func otherDigits(o api.Ots, b []byte) []int {
	text := ""
	for _, c := range b {
		text += fmt.Sprintf("%08b", c)
	}
	out := readOff(text, o.W)
	lack := 0
	for _, d := range out {
		lack += top(o) - d
	}
	return append(out, readOff(fmt.Sprintf("%016b", lack<<o.Shift), o.W)[:o.P-len(out)]...)
}

// readOff: bits as digits, so many bits each.
func readOff(text string, w int) []int {
	var out []int
	for bits := range slices.Chunk([]byte(text), w) {
		d, err := strconv.ParseInt(string(bits), 2, 64)
		if err != nil {
			panic(err)
		}
		out = append(out, int(d))
	}
	return out
}

// top: how high a chain of a set goes.
func top(o api.Ots) int { return 1<<o.W - 1 }

// part: the sum of a part, laid out.
func (m means) part(o api.Ots, name []byte, q uint32, d int, texts ...[]byte) []byte {
	b := binary.BigEndian.AppendUint32(bytes.Clone(name), q)
	b = binary.BigEndian.AppendUint16(b, uint16(d))
	return m.sum(o.Kind, o.N, append(b, bytes.Join(texts, nil)...))
}

// up: x, gone up step by step.
func (m means) up(o api.Ots, name []byte, q uint32, i, from, to int, x []byte) []byte {
	for j := from; j < to; j++ {
		x = m.part(o, name, q, i, []byte{byte(j)}, x)
	}
	return x
}

// secret: the secret of a word, laid out.
func (m means) secret(o api.Ots, s api.Seed, q uint32, d int) []byte {
	return m.part(o, s.Name, q, d, []byte{255}, s.Secret)
}

// begun: the beginning of a chain, gone up.
func (m means) begun(o api.Ots, s api.Seed, q uint32, i, to int) []byte {
	return m.up(o, s.Name, q, i, 0, to, m.secret(o, s, q, i))
}

// textDigits: all digits of a text's sum, laid out.
func (m means) textDigits(o api.Ots, name []byte, q uint32, salt, text []byte) []int {
	return m.digits(o, m.part(o, name, q, 0x8181, salt, text))
}

// key: the key of a place, laid out.
func (m means) key(o api.Ots, s api.Seed, q uint32) []byte {
	var ends []byte
	for i := range o.P {
		ends = append(ends, m.begun(o, s, q, i, top(o))...)
	}
	return m.part(o, s.Name, q, 0x8080, ends)
}

// sign: a text's signature, laid out.
func (m means) sign(o api.Ots, s api.Seed, q uint32, text []byte) []byte {
	salt := m.secret(o, s, q, 0xfffd)
	out := append(binary.BigEndian.AppendUint32(nil, o.Code), salt...)
	for i, d := range m.textDigits(o, s.Name, q, salt, text) {
		out = append(out, m.begun(o, s, q, i, d)...)
	}
	return out
}

// stands: the key that a signature of the right length stands for, laid out.
func (m means) stands(o api.Ots, name []byte, q uint32, text, sig []byte) []byte {
	n := o.N
	salt, rest := sig[4:4+n], sig[4+n:]
	var ends []byte
	for i, d := range m.textDigits(o, name, q, salt, text) {
		ends = append(ends, m.up(o, name, q, i, d, top(o), rest[n*i:n*(i+1)])...)
	}
	return m.part(o, name, q, 0x8080, ends)
}

// expect tells where bytes aren't those that they must be.
func expect(t *testing.T, got, want []byte, what ...any) {
	t.Helper()
	if len(want) == 0 || !bytes.Equal(got, want) {
		t.Errorf("%v: %v bytes, %x, not %v, %x", what, len(got), got, len(want), want)
	}
}

// nothing tells where bytes are there that may not be.
func nothing(t *testing.T, got []byte, what ...any) {
	t.Helper()
	if len(got) != 0 {
		t.Errorf("%v: %x, not nothing", what, got)
	}
}

// refused tells where Stands doesn't answer this code, and nothing beside it.
func refused(t *testing.T, name []byte, text, sig []byte, want api.Code, what ...any) {
	t.Helper()
	for _, q := range []uint32{0, 1, math.MaxUint32} {
		if key, e := once.Stands(name, q, text, sig); e != want || len(key) != 0 {
			t.Errorf("P10.2: %v: %v, %x, not %v", what, e, key, want)
		}
	}
}

// stands: the key that a signature stands for, where it must stand for one.
func stands(t *testing.T, name []byte, q uint32, text, sig []byte, what ...any) []byte {
	t.Helper()
	key, e := once.Stands(name, q, text, sig)
	if e != api.OK || len(key) == 0 {
		t.Errorf("P10.2: %v: %v, %x, not OK", what, e, key)
	}
	return key
}

// set: the one of a code.
func set(t *testing.T, code uint32) api.Ots {
	t.Helper()
	o, e := sets.Ots(code)
	if e != api.OK {
		t.Fatalf("Ots(%v): %v", code, e)
	}
	return o
}

// someSets: sets of both kinds and sizes, and of all widths.
func someSets(t *testing.T) []api.Ots {
	t.Helper()
	var out []api.Ots
	for _, code := range []uint32{1, 4, 6, 7, 10, 13, 15, 16} {
		out = append(out, set(t, code))
	}
	return out
}

// P10.1: the chapter's example: of the set 7 a signature has 4 + 24 * 52 bytes.
func TestExample(t *testing.T) {
	o := set(t, 7)
	if got := once.Size(o); got != 4+24*52 {
		t.Errorf("P10.1: Size of the set 7: %v, not %v", got, 4+24*52)
	}
	if got := len(once.Sign(o, rows.Seed(o.N, 1), 0, nil)); got != 4+24*52 {
		t.Errorf("P10.1: a signature of the set 7: %v bytes, not %v", got, 4+24*52)
	}
}

// P10.1: Size of every set, by what is written out, and by what a signature has.
func TestSize(t *testing.T) {
	for i, o := range rows.Sets() {
		if got := once.Size(o); got != sizes[i] || got != 4+o.N*(o.P+1) {
			t.Errorf("P10.1: Size of the set %v: %v, not %v", o.Code, got, sizes[i])
		}
		if got := len(once.Sign(o, rows.Seed(o.N, 1), 7, []byte("a text"))); got != sizes[i] {
			t.Errorf("P10.1: a signature of the set %v: %v bytes, not %v", o.Code, got, sizes[i])
		}
	}
}

// expectNone tells where a set and a seed may be, or where something comes of them.
func expectNone(t *testing.T, o api.Ots, s api.Seed) {
	t.Helper()
	if once.May(o, s) {
		t.Errorf("P10.1: May(%v, %x, %x)", o, s.Name, s.Secret)
	}
	nothing(t, once.Secret(o, s, 1, 2), "P10.1: Secret", o, len(s.Name), len(s.Secret))
	nothing(t, once.Secret(o, s, 0, 0xfffd), "P10.1: Secret, the salt", o, len(s.Name), len(s.Secret))
	nothing(t, once.Key(o, s, 1), "P10.1: Key", o, len(s.Name), len(s.Secret))
	for _, text := range [][]byte{nil, []byte("a text")} {
		nothing(t, once.Sign(o, s, 1, text), "P10.1: Sign", o, len(s.Name), len(s.Secret))
	}
}

// P10.1: May of every set, with seeds that may be of it, and that may not: nothing comes of those.
func TestMaySeeds(t *testing.T) {
	for _, o := range rows.Sets() {
		for _, s := range rows.Seeds(o.N) {
			if !once.May(o, s) {
				t.Errorf("P10.1: not May(%v, %x, %x)", o, s.Name, s.Secret)
			}
		}
		for _, s := range rows.NoSeeds(o.N) {
			expectNone(t, o, s)
		}
		for n := range 100 {
			if s := (api.Seed{Name: rows.Mixed(n, 7), Secret: rows.Mixed(o.N, 8)}); once.May(o, s) != (n == 16) {
				t.Errorf("P10.1: May(%v), a name of %v bytes", o, n)
			}
			if s := (api.Seed{Name: rows.Mixed(16, 7), Secret: rows.Mixed(n, 8)}); once.May(o, s) != (n == o.N) {
				t.Errorf("P10.1: May(%v), a secret of %v bytes", o, n)
			}
		}
	}
}

// P10.1: May of sets that are none, those that differ from one in a single number among them: nothing comes of them.
func TestMayNoSets(t *testing.T) {
	for _, o := range rows.NoSets() {
		for _, n := range []int{24, 32, 0, 23, 25, 31, 33} {
			expectNone(t, o, api.Seed{Name: rows.Mixed(16, 9), Secret: rows.Mixed(n, 10)})
		}
		if o.N > 0 && o.N < 1000 {
			expectNone(t, o, rows.Seed(o.N, 9))
		}
		expectNone(t, o, api.Seed{})
	}
}

// P10.1: secrets, with places and words at their edges, and all words of chains: each the sum of its parts.
func TestSecret(t *testing.T) {
	for _, o := range rows.Sets() {
		words := rows.Words()
		for i := range o.P + 2 {
			words = append(words, uint16(i))
		}
		for _, s := range rows.Seeds(o.N) {
			for _, q := range rows.Places() {
				for _, d := range words {
					got := once.Secret(o, s, q, d)
					for _, m := range allMeans {
						expect(t, got, m.secret(o, s, q, int(d)), "P10.1: Secret", o.Code, q, d)
					}
				}
			}
		}
	}
}

// P10.1: secrets hang on each byte of the name, the place, the word and the secret, and on nothing else.
func TestSecretUnlike(t *testing.T) {
	for _, o := range rows.Sets() {
		s := rows.Seed(o.N, 11)
		seen := map[string]string{string(once.Secret(o, s, 1, 2)): "as it is"}
		add := func(what string, at int, b []byte) {
			if was := seen[string(b)]; was != "" {
				t.Errorf("P10.1: Secret, set %v: %v %v is as %v", o.Code, what, at, was)
			}
			seen[string(b)] = what + " " + strconv.Itoa(at)
		}
		for i := range 32 {
			add("a bit of the place", i, once.Secret(o, s, 1^1<<i, 2))
		}
		for i := range 16 {
			add("a bit of the word", i, once.Secret(o, s, 1, 2^1<<i))
			add("a byte of the name", i, once.Secret(o, api.Seed{Name: rows.Turned(s.Name, i), Secret: s.Secret}, 1, 2))
		}
		for i := range o.N {
			add("a byte of the secret", i, once.Secret(o, api.Seed{Name: s.Name, Secret: rows.Turned(s.Secret, i)}, 1, 2))
		}
		expect(t, once.Secret(o, s, 1, 2), byLayers.secret(o, s, 1, 2), "P10.1: Secret, again", o.Code)
	}
}

// P10.1: keys of every set, and of some with many seeds and places.
func TestKey(t *testing.T) {
	for _, o := range rows.Sets() {
		s := rows.Seed(o.N, 12)
		for _, m := range allMeans {
			expect(t, once.Key(o, s, 258), m.key(o, s, 258), "P10.1: Key", o.Code)
		}
	}
	for _, code := range []uint32{2, 3, 5, 7, 8, 9, 14, 15} {
		o := set(t, code)
		for _, s := range rows.Seeds(o.N) {
			expect(t, once.Key(o, s, 0), byOthers.key(o, s, 0), "P10.1: Key, by its seed", o.Code)
		}
		for _, q := range rows.Places() {
			expect(t, once.Key(o, rows.Seed(o.N, 13), q), byOthers.key(o, rows.Seed(o.N, 13), q), "P10.1: Key, by its place", o.Code, q)
		}
	}
}

// P10.1: signatures of every set, with texts of many lengths; P10.3: each stands for the key.
func TestSign(t *testing.T) {
	for _, o := range rows.Sets() {
		s := rows.Seed(o.N, 14)
		key := once.Key(o, s, 0x1020304)
		for _, text := range [][]byte{nil, {}, {0}, []byte("a text"), rows.Mixed(1000, 15), rows.Guarded([]byte("a text"))} {
			got := once.Sign(o, s, 0x1020304, text)
			for _, m := range allMeans {
				expect(t, got, m.sign(o, s, 0x1020304, text), "P10.1: Sign", o.Code, len(text))
			}
			expect(t, once.Sign(o, s, 0x1020304, text), got, "P10.1: Sign, again", o.Code)
			expect(t, stands(t, s.Name, 0x1020304, text, got, o.Code), key, "P10.3: Stands", o.Code, len(text))
		}
	}
}

// P10.1, P10.3: signatures with many seeds and places.
func TestSignSeedsPlaces(t *testing.T) {
	text := []byte("another text")
	for _, o := range someSets(t) {
		sound := func(s api.Seed, q uint32) {
			sig := once.Sign(o, s, q, text)
			expect(t, sig, byOthers.sign(o, s, q, text), "P10.1: Sign", o.Code, q)
			expect(t, stands(t, s.Name, q, text, sig, o.Code, q), once.Key(o, s, q), "P10.3: Stands", o.Code, q)
		}
		for _, s := range rows.Seeds(o.N) {
			sound(s, 77)
		}
		for _, q := range rows.Places() {
			sound(rows.Seed(o.N, 16), q)
		}
	}
}

// P10.1, P10.3: texts of every length up to some blocks.
func TestTextLengths(t *testing.T) {
	for _, code := range []uint32{6, 11} {
		o := set(t, code)
		s := rows.Seed(o.N, 17)
		key := once.Key(o, s, 5)
		for n := range 290 {
			text := rows.Mixed(n, 18)
			sig := once.Sign(o, s, 5, text)
			expect(t, sig, byOthers.sign(o, s, 5, text), "P10.1: Sign, bytes of text", o.Code, n)
			expect(t, stands(t, s.Name, 5, text, sig, o.Code, n), key, "P10.3: Stands, bytes of text", o.Code, n)
		}
	}
}

// P10.1, P10.2: texts of MaxText bytes, of a byte less, and of more.
func TestLongTexts(t *testing.T) {
	long := rows.Mixed(2*api.MaxText, 19)
	for _, o := range rows.Sets() {
		s := rows.Seed(o.N, 20)
		for _, n := range []int{api.MaxText - 1, api.MaxText} {
			sig := once.Sign(o, s, 9, long[:n])
			expect(t, sig, byOthers.sign(o, s, 9, long[:n]), "P10.1: Sign, bytes of text", o.Code, n)
			expect(t, stands(t, s.Name, 9, long[:n], sig, o.Code, n), once.Key(o, s, 9), "P10.3: Stands, bytes of text", o.Code, n)
		}
		sig := once.Sign(o, s, 9, long[:api.MaxText])
		for _, n := range []int{api.MaxText + 1, api.MaxText + 2, 2 * api.MaxText} {
			nothing(t, once.Sign(o, s, 9, long[:n]), "P10.1: Sign, bytes of text", o.Code, n)
			refused(t, s.Name, long[:n], sig, api.Arg, "bytes of text", o.Code, n)
		}
	}
}

// P10.1: a signature is its set's code, the salt, and of each chain as much as a digit tells.
func TestSignatureParts(t *testing.T) {
	text := []byte("in parts")
	for _, o := range rows.Sets() {
		s := rows.Seed(o.N, 21)
		sig := once.Sign(o, s, 3, text)
		expect(t, sig[:4], []byte{0, 0, 0, byte(o.Code)}, "P10.1: the code", o.Code)
		salt := sig[4 : 4+o.N]
		expect(t, salt, once.Secret(o, s, 3, 0xfffd), "P10.1: the salt", o.Code)
		sum := chain.Part(o.Kind, o.N, s.Name, 3, 0x8181, salt, text)
		var ends []byte
		for i, d := range digits.All(sum, o.W) {
			link := sig[4+o.N*(i+1) : 4+o.N*(i+2)]
			expect(t, link, chain.Up(o, s.Name, 3, i, 0, d, once.Secret(o, s, 3, uint16(i))), "P10.1: a chain", o.Code, i, d)
			ends = append(ends, chain.Up(o, s.Name, 3, i, d, top(o), link)...)
		}
		expect(t, once.Key(o, s, 3), chain.Part(o.Kind, o.N, s.Name, 3, 0x8080, ends), "P10.1: the key", o.Code)
	}
}

// edgeText: a text of whose digits one at least is 0, and one the greatest.
func edgeText(t *testing.T, o api.Ots, s api.Seed, q uint32) []byte {
	t.Helper()
	salt := byOthers.secret(o, s, q, 0xfffd)
	for i := range 100000 {
		text := []byte(strconv.Itoa(i))
		d := byOthers.textDigits(o, s.Name, q, salt, text)
		if slices.Contains(d, 0) && slices.Contains(d, top(o)) {
			return text
		}
	}
	t.Fatalf("no text with digits at both edges, set %v", o.Code)
	return nil
}

// P10.1, P10.3: texts of whose digits one is 0, so that the chain isn't gone up at all, and one the greatest, so that it is gone up to its end.
func TestEdgeDigits(t *testing.T) {
	for _, o := range rows.Sets() {
		s := rows.Seed(o.N, 22)
		text := edgeText(t, o, s, 4)
		sig := once.Sign(o, s, 4, text)
		expect(t, sig, byOthers.sign(o, s, 4, text), "P10.1: Sign, digits at both edges", o.Code)
		expect(t, stands(t, s.Name, 4, text, sig, o.Code), byOthers.key(o, s, 4), "P10.3: Stands, digits at both edges", o.Code)
	}
}

// another tells where a signature doesn't stand for the key that is laid out for it, or where it stands for this one.
func another(t *testing.T, o api.Ots, key, name []byte, q uint32, text, sig []byte, what ...any) {
	t.Helper()
	got := stands(t, name, q, text, sig, what...)
	expect(t, got, byOthers.stands(o, name, q, text, sig), what...)
	if bytes.Equal(got, key) {
		t.Errorf("P10.2: %v: the same key", what)
	}
}

// P10.2: a signature with another text, name or place stands for another key.
func TestStandsForAnother(t *testing.T) {
	text := rows.Mixed(40, 23)
	for _, o := range someSets(t) {
		s := rows.Seed(o.N, 24)
		key, sig := once.Key(o, s, 77), once.Sign(o, s, 77, text)
		expect(t, stands(t, s.Name, 77, text, sig, o.Code), key, "P10.3: Stands", o.Code)
		for i := range text {
			another(t, o, key, s.Name, 77, rows.Turned(text, i), sig, "P10.2: a byte of the text", o.Code, i)
		}
		for _, other := range [][]byte{nil, text[:39], text[1:], append(bytes.Clone(text), 0), append([]byte{0}, text...), append(bytes.Clone(text), text...)} {
			another(t, o, key, s.Name, 77, other, sig, "P10.2: another text", o.Code, len(other))
		}
		for i := range s.Name {
			another(t, o, key, rows.Turned(s.Name, i), 77, text, sig, "P10.2: a byte of the name", o.Code, i)
		}
		for i := range 32 {
			another(t, o, key, s.Name, 77^1<<i, text, sig, "P10.2: a bit of the place", o.Code, i)
		}
	}
}

// P10.2: a signature, a byte of whose salt or chains is another, stands for another key: of two sets every byte (but with -short), of the others one a chain.
func TestOtherByte(t *testing.T) {
	text := []byte("a text")
	for _, o := range rows.Sets() {
		s := rows.Seed(o.N, 25)
		key, sig := once.Key(o, s, 6), once.Sign(o, s, 6, text)
		step := o.N + 1
		if !testing.Short() && (o.Code == 7 || o.Code == 15) {
			step = 1
		}
		for at := 4; at < len(sig); at += step {
			another(t, o, key, s.Name, 6, text, rows.Turned(sig, at), "P10.2: a byte of the signature", o.Code, at)
		}
		for _, at := range []int{4, 4 + o.N - 1, 4 + o.N, len(sig) - 1} {
			another(t, o, key, s.Name, 6, text, rows.Turned(sig, at), "P10.2: a byte at an edge", o.Code, at)
		}
	}
}

// P10.2: a chain that is gone up further than its digit tells, or less far, makes another key; so do two chains in each other's place.
func TestOtherHeights(t *testing.T) {
	text := []byte("heights")
	for _, o := range rows.Sets() {
		s := rows.Seed(o.N, 26)
		key, sig := once.Key(o, s, 8), once.Sign(o, s, 8, text)
		for i, d := range byOthers.textDigits(o, s.Name, 8, sig[4:4+o.N], text)[:4] {
			for _, to := range []int{d - 1, d + 1} {
				if to < 0 || to > top(o) {
					continue
				}
				bad := bytes.Clone(sig)
				copy(bad[4+o.N*(i+1):], byOthers.begun(o, s, 8, i, to))
				another(t, o, key, s.Name, 8, text, bad, "P10.2: a chain from another height", o.Code, i, to)
			}
		}
		bad := bytes.Clone(sig)
		copy(bad[4+o.N:], sig[4+2*o.N:4+3*o.N])
		copy(bad[4+2*o.N:], sig[4+o.N:4+2*o.N])
		another(t, o, key, s.Name, 8, text, bad, "P10.2: two chains in each other's place", o.Code)
	}
}

// P10.2: bytes that nobody signed stand for a key, too.
func TestAnyBytes(t *testing.T) {
	for _, o := range rows.Sets() {
		for _, body := range [][]byte{rows.Mixed(sizes[o.Code-1]-4, 27), make([]byte, sizes[o.Code-1]-4), bytes.Repeat([]byte{255}, sizes[o.Code-1]-4)} {
			sig := append([]byte{0, 0, 0, byte(o.Code)}, body...)
			for _, name := range [][]byte{make([]byte, 16), bytes.Repeat([]byte{255}, 16)} {
				got := stands(t, name, math.MaxUint32, nil, sig, "any bytes", o.Code)
				expect(t, got, byLayers.stands(o, name, math.MaxUint32, nil, sig), "P10.2: any bytes", o.Code)
			}
		}
	}
}

// P10.2: nothing of a name that hasn't 16 bytes: Arg.
func TestStandsNames(t *testing.T) {
	for _, o := range rows.Sets() {
		s := rows.Seed(o.N, 28)
		sig := once.Sign(o, s, 1, nil)
		for _, n := range []int{0, 1, 15, 17, 31, 32, 256, 256 + 16, 1<<16 + 16} {
			refused(t, rows.Mixed(n, 28), nil, sig, api.Arg, "bytes of the name", o.Code, n)
			refused(t, append(make([]byte, 0, n+16), rows.Mixed(n, 28)...), nil, sig, api.Arg, "bytes of the name, spare room", o.Code, n)
		}
		refused(t, nil, nil, sig, api.Arg, "no name", o.Code)
		expect(t, stands(t, rows.Guarded(s.Name), 1, nil, sig, o.Code), once.Key(o, s, 1), "P10.3: Stands, a name with spare room", o.Code)
	}
}

// P10.2: nothing of fewer than 4 bytes, whichever they are: Short.
func TestShort(t *testing.T) {
	name := rows.Mixed(16, 29)
	refused(t, name, nil, nil, api.Short, "no signature")
	for _, o := range rows.Sets() {
		sig := once.Sign(o, rows.Seed(o.N, 29), 1, nil)
		for n := range 4 {
			refused(t, name, nil, sig[:n], api.Short, "the first bytes, spare room behind", o.Code, n)
			refused(t, name, nil, bytes.Clone(sig[:n]), api.Short, "the first bytes", o.Code, n)
			refused(t, name, nil, rows.Mixed(n, byte(o.Code)), api.Short, "any bytes", n)
			refused(t, name, nil, sig[4-n:4], api.Short, "the last bytes of the code", o.Code, n)
		}
	}
}

// P10.2: nothing of codes that are no set's, whatever the length: Unknown.
func TestUnknown(t *testing.T) {
	name := rows.Mixed(16, 30)
	codes := []uint32{0, 17, 18, 24, 32, 100, 255, 256, 257, 256 + 7, 7 << 8, 7 << 16, 7 << 24, 1 << 16, 1<<16 + 7, 1 << 31, 1<<31 + 7, 0xf0000001, 0xf0000007, 0xf0000010, math.MaxUint32}
	for code := uint32(19); code < 60; code++ {
		codes = append(codes, code)
	}
	lengths := append([]int{4, 5, 100, 2000, 70000}, sizes...)
	for _, code := range codes {
		for _, n := range lengths {
			sig := binary.BigEndian.AppendUint32(nil, code)
			refused(t, name, nil, append(sig, rows.Mixed(n-4, 30)...), api.Unknown, "code, bytes", code, n)
		}
	}
}

// P10.2: nothing of another length than the set's, by its code: Length.
func TestLength(t *testing.T) {
	name := rows.Mixed(16, 31)
	for i, o := range rows.Sets() {
		sig := once.Sign(o, rows.Seed(o.N, 31), 1, nil)
		lengths := []int{4, 5, 4 + o.N, sizes[i] - o.N, sizes[i] - 4, sizes[i] - 2, sizes[i] - 1, sizes[i] + 1, sizes[i] + 2, sizes[i] + 4, sizes[i] + o.N, 2 * sizes[i], sizes[i] + 256, sizes[i] + 1<<16}
		for _, n := range append(lengths, sizes...) {
			if n == sizes[i] {
				continue
			}
			other := append(bytes.Clone(sig), make([]byte, n+o.N)...)[:n]
			refused(t, name, nil, other, api.Length, "bytes, spare room behind", o.Code, n)
			refused(t, name, nil, bytes.Clone(other), api.Length, "bytes", o.Code, n)
		}
	}
}

// P10.2: with another set's code a signature is of another length, or stands for another key.
func TestOtherCode(t *testing.T) {
	text := []byte("a text")
	for i, o := range rows.Sets() {
		s := rows.Seed(o.N, 32)
		key, sig := once.Key(o, s, 2), once.Sign(o, s, 2, text)
		for j, other := range rows.Sets() {
			bad := bytes.Clone(sig)
			bad[3] = byte(other.Code)
			switch {
			case i == j:
				expect(t, stands(t, s.Name, 2, text, bad, o.Code), key, "P10.3: Stands", o.Code)
			case sizes[i] == sizes[j]:
				another(t, other, key, s.Name, 2, text, bad, "P10.2: the code of another kind", o.Code, other.Code)
			default:
				refused(t, s.Name, text, bad, api.Length, "the code of another set", o.Code, other.Code)
			}
		}
	}
}

// P10.2: where several codes apply, the answer is the one that the chapter names first.
func TestNamedFirst(t *testing.T) {
	name, text, long := rows.Mixed(16, 33), []byte("a text"), make([]byte, api.MaxText+1)
	o := set(t, 8)
	sound := once.Sign(o, rows.Seed(o.N, 33), 0, text)
	for _, c := range []struct {
		what string
		sig  []byte
		e    api.Code
	}{
		{"nothing", nil, api.Short},
		{"the end of a known code", []byte{0, 0, 8}, api.Short},
		{"the end of an unknown code", []byte{0, 0, 17}, api.Short},
		{"an unknown code alone", []byte{0, 0, 0, 17}, api.Unknown},
		{"an unknown code, of a set's length", append([]byte{0, 0, 1, 8}, sound[4:]...), api.Unknown},
		{"noughts", make([]byte, 2000), api.Unknown},
		{"a known code alone", []byte{0, 0, 0, 8}, api.Length},
		{"a byte less", sound[:len(sound)-1], api.Length},
		{"a byte more", append(bytes.Clone(sound), 0), api.Length},
	} {
		refused(t, name, text, c.sig, c.e, c.what)
		for _, other := range [][]byte{nil, name[:15], append(bytes.Clone(name), 0)} {
			refused(t, other, text, c.sig, api.Arg, "a wrong name,", c.what)
			refused(t, other, long, c.sig, api.Arg, "a wrong name, a long text,", c.what)
		}
		refused(t, name, long, c.sig, api.Arg, "a long text,", c.what)
	}
	stands(t, name, 0, text, sound, "what is sound")
}

// P10.1, P10.2: a refused call leaves nothing behind.
func TestAfterRefused(t *testing.T) {
	text := []byte("a text")
	for _, o := range someSets(t) {
		s := rows.Seed(o.N, 34)
		key, sig, secret := byOthers.key(o, s, 1), byOthers.sign(o, s, 1, text), byOthers.secret(o, s, 1, 2)
		bad := api.Seed{Name: s.Name[:15], Secret: s.Secret}
		for range 2 {
			expectNone(t, o, bad)
			expect(t, once.Secret(o, s, 1, 2), secret, "P10.1: Secret, behind a refused one", o.Code)
			expectNone(t, o, bad)
			expect(t, once.Key(o, s, 1), key, "P10.1: Key, behind a refused one", o.Code)
			expectNone(t, o, bad)
			expect(t, once.Sign(o, s, 1, text), sig, "P10.1: Sign, behind a refused one", o.Code)
			refused(t, s.Name, text, sig[:len(sig)-1], api.Length, "a byte less", o.Code)
			expect(t, stands(t, s.Name, 1, text, sig, o.Code), key, "P10.3: Stands, behind a refused one", o.Code)
		}
	}
}

// P10.1, P10.2: what was handed in stays as it was, its spare room too, and isn't shared nor kept.
func TestKeepsApart(t *testing.T) {
	text := rows.Mixed(50, 35)
	for _, o := range someSets(t) {
		s := rows.Seed(o.N, 36)
		sig := once.Sign(o, s, 3, text)
		of := func(in [][]byte) api.Seed { return api.Seed{Name: in[0], Secret: in[1]} }
		handed := func(call func(in [][]byte) []byte) func(in [][]byte) []byte {
			return func(in [][]byte) []byte {
				once.May(o, of(in))
				return call(in)
			}
		}
		for what, call := range map[string]func(in [][]byte) []byte{
			"Secret":          func(in [][]byte) []byte { return once.Secret(o, of(in), 3, 9) },
			"Secret, refused": func(in [][]byte) []byte { return once.Secret(o, api.Seed{Name: in[1], Secret: in[0]}, 3, 9) },
			"Key":             func(in [][]byte) []byte { return once.Key(o, of(in), 3) },
			"Sign":            func(in [][]byte) []byte { return once.Sign(o, of(in), 3, in[2]) },
			"Sign, no text":   func(in [][]byte) []byte { return once.Sign(o, of(in), 3, nil) },
			"Stands":          func(in [][]byte) []byte { key, _ := once.Stands(in[0], 3, in[2], in[3]); return key },
			"Stands, refused": func(in [][]byte) []byte { key, _ := once.Stands(in[0], 3, in[2], in[3][:9]); return key },
		} {
			if how := rows.Apart(handed(call), s.Name, s.Secret, text, sig); how != "" {
				t.Errorf("P10: %v, set %v: %v", what, o.Code, how)
			}
		}
	}
}

// P10.1, P10.2: rows that share memory are taken as they stand, each up to its own end.
func TestShared(t *testing.T) {
	for _, o := range someSets(t) {
		b := rows.Mixed(64, 37)
		s := api.Seed{Name: b[:16], Secret: b[8 : 8+o.N]}
		text := b[12:50]
		apart := api.Seed{Name: bytes.Clone(s.Name), Secret: bytes.Clone(s.Secret)}
		sig := once.Sign(o, s, 1, text)
		expect(t, sig, byOthers.sign(o, apart, 1, bytes.Clone(text)), "P10.1: Sign, of rows that share memory", o.Code)
		expect(t, once.Key(o, s, 1), byOthers.key(o, apart, 1), "P10.1: Key, of rows that share memory", o.Code)
		got := stands(t, sig[2:18], 1, sig[10:100], sig, o.Code)
		expect(t, got, byOthers.stands(o, bytes.Clone(sig[2:18]), 1, bytes.Clone(sig[10:100]), bytes.Clone(sig)), "P10.2: Stands, of rows that share memory", o.Code)
		expect(t, b, rows.Mixed(64, 37), "P10.1: what is shared", o.Code)
	}
}
