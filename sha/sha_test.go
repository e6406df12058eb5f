package sha_test

import (
	"bytes"
	"crypto/sha256"
	"encoding"
	"encoding/binary"
	"encoding/hex"
	"math/rand"
	"strings"
	"testing"

	"tiltyard/sha"
)

// first are the first words.
var first = [8]uint32{0x6a09e667, 0xbb67ae85, 0x3c6ef372, 0xa54ff53a, 0x510e527f, 0x9b05688c, 0x1f83d9ab, 0x5be0cd19}

func random(seed int64, many int) []byte {
	b := make([]byte, many)
	rand.New(rand.NewSource(seed)).Read(b)
	return b
}

// padded are bytes and what is put behind them, in whole blocks.
func padded(b []byte) []byte {
	p := append(append([]byte(nil), b...), 128)
	for len(p)%64 != 56 {
		p = append(p, 0)
	}
	return binary.BigEndian.AppendUint64(p, 8*uint64(len(b)))
}

// stepped is what the library's hash makes of eight words and a block: its state is its words, a block and a count.
func stepped(t *testing.T, h [8]uint32, block [64]byte) [8]uint32 {
	t.Helper()
	d := sha256.New()
	state, err := d.(encoding.BinaryMarshaler).MarshalBinary()
	if err != nil || len(state) < 36 {
		t.Fatal("the library's hash does not tell its state")
	}
	for i, w := range h {
		binary.BigEndian.PutUint32(state[4+4*i:], w)
	}
	if err := d.(encoding.BinaryUnmarshaler).UnmarshalBinary(state); err != nil {
		t.Fatal(err)
	}
	d.Write(block[:])
	state, _ = d.(encoding.BinaryMarshaler).MarshalBinary()
	for i := range h {
		h[i] = binary.BigEndian.Uint32(state[4+4*i:])
	}
	return h
}

// P2.1

func TestStep(t *testing.T) {
	full := [8]uint32{}
	for i := range full {
		full[i] = ^uint32(0)
	}
	ones := [64]byte(bytes.Repeat([]byte{255}, 64))
	for _, h := range [][8]uint32{{}, first, full, {1}, {7: 1}, {1, 2, 3, 4, 5, 6, 7, 8}} {
		for _, block := range [][64]byte{{}, ones, {1}, {63: 1}, [64]byte(random(1, 64))} {
			if got, want := sha.Step(h, block), stepped(t, h, block); got != want {
				t.Errorf("Step(%x, %x) is %x, not %x", h, block, got, want)
			}
		}
	}
	r := rand.New(rand.NewSource(2))
	for i := range 200 {
		var h [8]uint32
		for i := range h {
			h[i] = r.Uint32()
		}
		block := [64]byte(random(int64(i), 64))
		if got, want := sha.Step(h, block), stepped(t, h, block); got != want {
			t.Fatalf("Step(%x, %x) is %x, not %x", h, block, got, want)
		}
	}
}

func TestStepBringsOnTheSum(t *testing.T) {
	for _, many := range []int{0, 3, 55, 56, 64, 200} {
		b := random(3, many)
		h := first
		for p := padded(b); len(p) > 0; p = p[64:] {
			h = sha.Step(h, [64]byte(p))
		}
		var want [32]byte
		for i, w := range h {
			binary.BigEndian.PutUint32(want[4*i:], w)
		}
		if sha.Sum(b) != want {
			t.Errorf("%d bytes: the sum is not what the blocks bring on", many)
		}
	}
}

func TestStepKeepsWhatIsHandedIn(t *testing.T) {
	h, block := first, [64]byte(random(4, 64))
	was := block
	a := sha.Step(h, block)
	if b := sha.Step(h, block); a != b || h != first || block != was {
		t.Error("Step changes what was handed in, or answers another thing the second time")
	}
}

func TestKnownSums(t *testing.T) {
	for text, want := range map[string]string{
		"":    "e3b0c44298fc1c149afbf4c8996fb92427ae41e4649b934ca495991b7852b855",
		"abc": "ba7816bf8f01cfea414140de5dae2223b00361a396177a9cb410ff61f20015ad",
		"abcdbcdecdefdefgefghfghighijhijkijkljklmklmnlmnomnopnopq":                                                         "248d6a61d20638b8e5c026930c3e6039a33ce45964ff2167f6ecedd419db06c1",
		"abcdefghbcdefghicdefghijdefghijkefghijklfghijklmghijklmnhijklmnoijklmnopjklmnopqklmnopqrlmnopqrsmnopqrstnopqrstu": "cf5b16a778af8380036ce59e7b0492370b249b11e8f07a51afac45037afee9d1",
		strings.Repeat("a", 1000000): "cdc76e5c9914fb9281a1c7e284d73e67f1809a48a497200e046d39ccc7112cd0",
	} {
		if got := sha.Sum([]byte(text)); hex.EncodeToString(got[:]) != want {
			t.Errorf("the sum of %d bytes is %x, not %s", len(text), got, want)
		}
	}
}

func TestSumsOfAllLengths(t *testing.T) {
	for many := range 600 {
		b := random(int64(many), many)
		want := sha256.Sum256(b)
		if sha.Sum(b) != want {
			t.Errorf("the sum of %d bytes is wrong", many)
		}
		h := sha.New()
		h.Write(b)
		if h.Sum() != want {
			t.Errorf("the sum of %d bytes that are written is wrong", many)
		}
	}
}

func TestSumAtTheEdgesOfABlock(t *testing.T) {
	for _, many := range []int{0, 1, 54, 55, 56, 57, 62, 63, 64, 65, 118, 119, 120, 127, 128, 129, 4096, 70001} {
		for _, c := range []byte{0, 128, 255} {
			b := bytes.Repeat([]byte{c}, many)
			if sha.Sum(b) != sha256.Sum256(b) {
				t.Errorf("the sum of %d bytes %d is wrong", many, c)
			}
		}
	}
}

func TestSumOfNothing(t *testing.T) {
	want := sha256.Sum256(nil)
	h := sha.New()
	for i, got := range [][32]byte{sha.Sum(), sha.Sum(nil), sha.Sum([]byte{}), sha.Sum(nil, []byte{}, nil), h.Sum()} {
		if got != want {
			t.Errorf("%d: the sum of nothing is %x", i, got)
		}
	}
	h.Write()
	h.Write(nil)
	h.Write([]byte{}, nil)
	if h.Sum() != want {
		t.Error("parts without bytes are something")
	}
}

func TestSumEndsNothing(t *testing.T) {
	b := random(5, 300)
	h := sha.New()
	for i := range b {
		want := sha256.Sum256(b[:i])
		if h.Sum() != want || h.Sum() != want {
			t.Fatalf("the sum of the first %d bytes is wrong", i)
		}
		h.Write(b[i : i+1])
	}
	if h.Sum() != sha256.Sum256(b) {
		t.Error("the sum of all bytes is wrong")
	}
}

func TestHashesAreTheirOwn(t *testing.T) {
	a, b := sha.New(), sha.New()
	a.Write([]byte("one"))
	b.Write([]byte("another"))
	a.Write([]byte(" more"))
	if a.Sum() != sha256.Sum256([]byte("one more")) || b.Sum() != sha256.Sum256([]byte("another")) {
		t.Error("two hashes share something")
	}
	sum := a.Sum()
	sum[0]++
	if a.Sum() != sha256.Sum256([]byte("one more")) {
		t.Error("a sum is a hash's own")
	}
}

func TestNilHash(t *testing.T) {
	var h *sha.Hash
	h.Write()
	h.Write(nil)
	h.Write([]byte("abc"), []byte("d"))
	if h.Sum() != [32]byte{} {
		t.Error("the sum of nil is not 32 noughts")
	}
}

func TestPartsAreNeitherChangedNorKept(t *testing.T) {
	b := random(6, 130)
	was := bytes.Clone(b)
	want := sha256.Sum256(b)
	h := sha.New()
	h.Write(b[:70], b[70:])
	if sha.Sum(b[:10], b[10:]) != want || !bytes.Equal(b, was) {
		t.Error("Sum or Write changes its parts")
	}
	clear(b)
	if h.Sum() != want {
		t.Error("a hash keeps the parts that it was handed")
	}
}

// P2.2

func TestCutsDoNotMatter(t *testing.T) {
	b := random(7, 140)
	want := sha256.Sum256(b)
	for i := range len(b) + 1 {
		for j := i; j <= len(b); j++ {
			if sha.Sum(b[:i], b[i:j], b[j:]) != want {
				t.Fatalf("cut at %d and %d the sum is another one", i, j)
			}
			h := sha.New()
			h.Write(b[:i])
			h.Write(b[i:j], b[j:])
			if h.Sum() != want {
				t.Fatalf("written in parts cut at %d and %d the sum is another one", i, j)
			}
		}
	}
}

func TestManyCutsDoNotMatter(t *testing.T) {
	r := rand.New(rand.NewSource(8))
	for range 300 {
		b := random(r.Int63(), r.Intn(500))
		var parts [][]byte
		h := sha.New()
		for rest := b; len(rest) > 0; {
			n := r.Intn(min(len(rest), 80) + 1) // none, too
			parts = append(parts, rest[:n])
			h.Write(rest[:n])
			rest = rest[n:]
		}
		if want := sha256.Sum256(b); sha.Sum(parts...) != want || h.Sum() != want {
			t.Fatalf("%d bytes in %d parts have another sum", len(b), len(parts))
		}
	}
}
