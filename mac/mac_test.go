package mac_test

import (
	"bytes"
	"crypto/hmac"
	"crypto/sha256"
	"encoding/hex"
	"math/rand"
	"slices"
	"strings"
	"testing"

	"tiltyard/mac"
	"tiltyard/sha"
)

// lengths are the keys' that are tried: none, those about a whole block, and longer ones.
var lengths = []int{0, 1, 4, 20, 31, 32, 33, 55, 56, 62, 63, 64, 65, 66, 100, 127, 128, 129, 131, 1000}

func random(seed int64, many int) []byte {
	b := make([]byte, many)
	rand.New(rand.NewSource(seed)).Read(b)
	return b
}

// known is the library's tag.
func known(key, b []byte) [32]byte {
	m := hmac.New(sha256.New, key)
	m.Write(b)
	return [32]byte(m.Sum(nil))
}

// P3.1

// The cases of RFC 4231, and that of an empty key and no bytes.
func TestKnownTags(t *testing.T) {
	counted := make([]byte, 25)
	for i := range counted {
		counted[i] = byte(i + 1)
	}
	for _, c := range []struct{ key, text, want string }{
		{"", "", "b613679a0814d9ec772f95d778c35fc5ff1697c493715653c6c712144292c5ad"},
		{strings.Repeat("\x0b", 20), "Hi There", "b0344c61d8db38535ca8afceaf0bf12b881dc200c9833da726e9376c2e32cff7"},
		{"Jefe", "what do ya want for nothing?", "5bdcc146bf60754e6a042426089575c75a003f089d2739839dec58b964ec3843"},
		{strings.Repeat("\xaa", 20), strings.Repeat("\xdd", 50), "773ea91e36800e46854db8ebd09181a72959098b3ef8c122d9635514ced565fe"},
		{string(counted), strings.Repeat("\xcd", 50), "82558a389a443c0ea4cc819899f2083a85f0faa3e578f8077a2e3ff46729665b"},
		{strings.Repeat("\xaa", 131), "Test Using Larger Than Block-Size Key - Hash Key First", "60e431591ee0b67f0d8a26aacbf5b77f8e0bc6213728c5140546040f0ee37f54"},
		{strings.Repeat("\xaa", 131), "This is a test using a larger than block-size key and a larger than block-size data. The key needs to be hashed before being used by the HMAC algorithm.", "9b09ffa71b942fcb27635fbcd5b0e944bfdc63644f0713938a7f51535c3a35e2"},
	} {
		if got := mac.Tag([]byte(c.key), []byte(c.text)); hex.EncodeToString(got[:]) != c.want {
			t.Errorf("the tag of %q by %q is %x, not %s", c.text, c.key, got, c.want)
		}
	}
}

func TestTagsByKeysOfAllLengths(t *testing.T) {
	for i, many := range lengths {
		key := random(int64(i), many)
		k := mac.Make(key)
		for _, long := range []int{0, 1, 31, 32, 55, 56, 63, 64, 65, 300} {
			b := random(int64(1000+long), long)
			want := known(key, b)
			if got := mac.Tag(key, b); got != want {
				t.Errorf("Tag of %d bytes by a key of %d: %x, not %x", long, many, got, want)
			}
			if got := k.Tag(b); got != want {
				t.Errorf("k.Tag of %d bytes by a key of %d: %x, not %x", long, many, got, want)
			}
			if !k.Fits(want[:], b) {
				t.Errorf("the tag of %d bytes by a key of %d does not fit", long, many)
			}
		}
	}
}

func TestTagIsTheDocumentsSum(t *testing.T) {
	key, b := random(1, 40), random(2, 70)
	var block, inner, outer [64]byte
	copy(block[:], key)
	for i, c := range block {
		inner[i], outer[i] = c^0x36, c^0x5c
	}
	sum := sha.Sum(inner[:], b)
	if got, want := mac.Tag(key, b), sha.Sum(outer[:], sum[:]); got != want {
		t.Errorf("the tag is %x, not %x", got, want)
	}
}

func TestPartsStandOneBehindTheOther(t *testing.T) {
	key, b := random(3, 20), random(4, 140)
	k, want := mac.Make(key), known(key, b)
	for i := range len(b) + 1 {
		for j := i; j <= len(b); j += 7 {
			parts := [][]byte{b[:i], nil, b[i:j], {}, b[j:]}
			if k.Tag(parts...) != want || mac.Tag(key, parts...) != want || !k.Fits(want[:], parts...) {
				t.Fatalf("cut at %d and %d the tag is another one", i, j)
			}
		}
	}
	if k.Tag(b[70:], b[:70]) == want || k.Fits(want[:], b[70:], b[:70]) {
		t.Error("the parts' order does not count")
	}
}

func TestTagOfNothing(t *testing.T) {
	for _, key := range [][]byte{nil, {}, []byte("key"), random(5, 100)} {
		k, want := mac.Make(key), known(key, nil)
		for i, parts := range [][][]byte{nil, {}, {nil}, {{}}, {nil, {}, nil}} {
			if k.Tag(parts...) != want || mac.Tag(key, parts...) != want || !k.Fits(want[:], parts...) {
				t.Errorf("key of %d, parts %d: the tag of nothing is another one", len(key), i)
			}
		}
	}
}

func TestFitsAsksForAllBytesOfATag(t *testing.T) {
	b := []byte("what do ya want for nothing?")
	k := mac.Make([]byte("Jefe"))
	tag := k.Tag(b)
	if !k.Fits(tag[:], b) {
		t.Fatal("a tag does not fit")
	}
	for i := range tag {
		for with := 1; with < 256; with++ {
			wrong := tag
			wrong[i] ^= byte(with)
			if k.Fits(wrong[:], b) {
				t.Fatalf("a tag fits whose byte %d is another one, by %x", i, with)
			}
		}
	}
	// Two bytes that differ alike do not make up for one another.
	for i := range tag {
		for j := range i {
			wrong := tag
			wrong[i] ^= 0x55
			wrong[j] ^= 0x55
			if k.Fits(wrong[:], b) {
				t.Fatalf("a tag fits whose bytes %d and %d are other ones", i, j)
			}
		}
	}
	for i := range tag {
		wrong := tag
		wrong[i]++
		wrong[(i+1)%32]--
		if k.Fits(wrong[:], b) {
			t.Fatalf("a tag fits whose bytes from %d on are other ones", i)
		}
	}
	if k.Fits(make([]byte, 32), b) {
		t.Error("32 noughts fit")
	}
}

func TestFitsAsksForATagsLength(t *testing.T) {
	b := []byte("bytes")
	k := mac.Make([]byte("key"))
	tag := k.Tag(b)
	long := append(slices.Clone(tag[:]), tag[:]...)
	for many := range len(long) + 1 {
		if k.Fits(long[:many], b) != (many == 32) {
			t.Errorf("a tag of %d bytes: %v", many, k.Fits(long[:many], b))
		}
	}
	if k.Fits(append(slices.Clone(tag[:]), 0), b) || k.Fits(nil, b) || k.Fits(nil) || k.Fits([]byte{}, nil) {
		t.Error("a tag of 33 bytes, or of none, fits")
	}
	// A tag that ends in a nought is none without it.
	for i := range 5000 {
		b := []byte{byte(i), byte(i >> 8)}
		if tag := k.Tag(b); tag[31] == 0 {
			if k.Fits(tag[:31], b) || !k.Fits(tag[:], b) {
				t.Error("a nought at the end of a tag does not count")
			}
			return
		}
	}
	t.Error("there is no tag with a nought at its end")
}

func TestFitsAsksForTheBytesAndTheKey(t *testing.T) {
	b := random(6, 50)
	k := mac.Make([]byte("key"))
	tag := k.Tag(b)
	for i := range b {
		other := slices.Clone(b)
		other[i]++
		if k.Fits(tag[:], other) || k.Fits(tag[:], b[:i]) {
			t.Errorf("the tag fits other bytes, from %d on", i)
		}
	}
	if k.Fits(tag[:], b, []byte{0}) || k.Fits(tag[:]) {
		t.Error("the tag fits more bytes, or none")
	}
	for _, key := range []string{"", "kez", "ke", "keyy", "\x00key"} {
		if mac.Make([]byte(key)).Fits(tag[:], b) {
			t.Errorf("the tag fits by the key %q", key)
		}
	}
}

func TestNilKey(t *testing.T) {
	var k *mac.Key
	for i, parts := range [][][]byte{nil, {nil}, {[]byte("abc")}, {[]byte("a"), []byte("bc")}} {
		if k.Tag(parts...) != [32]byte{} {
			t.Errorf("parts %d: the tag by nil is not 32 noughts", i)
		}
		tag := mac.Tag(nil, parts...)
		for _, tag := range [][]byte{nil, {}, make([]byte, 31), make([]byte, 32), make([]byte, 33), tag[:]} {
			if k.Fits(tag, parts...) {
				t.Errorf("parts %d: a tag of %d bytes fits by nil", i, len(tag))
			}
		}
	}
	// A key of no bytes is a key.
	if mac.Make(nil) == nil || mac.Make(nil).Tag() == [32]byte{} {
		t.Error("a key of no bytes is none")
	}
}

// P3.2

func TestALongKeyIsAsGoodAsItsSum(t *testing.T) {
	b := random(7, 77)
	for i, many := range lengths {
		key := random(int64(i), many)
		sum := sha.Sum(key)
		same := mac.Tag(key, b) == mac.Tag(sum[:], b)
		if same != (many > 64) {
			t.Errorf("a key of %d is as good as its sum: %v", many, same)
		}
		if mac.Make(key).Fits(toSlice(mac.Tag(sum[:], b)), b) != (many > 64) {
			t.Errorf("the tag by the sum of a key of %d fits: %v", many, many <= 64)
		}
	}
}

func toSlice(tag [32]byte) []byte { return tag[:] }

func TestNoughtsBehindAKey(t *testing.T) {
	b := random(8, 77)
	for many := range 65 {
		key := random(int64(many), many)
		if many > 0 {
			key[many-1] |= 1
		}
		want := mac.Tag(key, b)
		for more := many; more < 70; more++ {
			longer := append(slices.Clone(key), make([]byte, more-many)...)
			same := mac.Tag(longer, b) == want && mac.Make(longer).Tag(b) == want && mac.Make(longer).Fits(want[:], b)
			if same != (more <= 64) {
				t.Errorf("a key of %d with noughts up to %d is the same: %v", many, more, same)
			}
		}
	}
	if mac.Tag([]byte("\x00key"), b) == mac.Tag([]byte("key"), b) || mac.Tag([]byte("key\x01"), b) == mac.Tag([]byte("key"), b) {
		t.Error("a nought ahead, or something else behind, does not count")
	}
}

func TestEachByteOfAKeyCounts(t *testing.T) {
	b := random(9, 10)
	for _, many := range []int{1, 63, 64, 65, 200} {
		key := random(10, many)
		want := mac.Tag(key, b)
		for i := range key {
			other := slices.Clone(key)
			other[i] ^= 128
			if mac.Tag(other, b) == want {
				t.Errorf("the byte %d of a key of %d does not count", i, many)
			}
		}
	}
}

// The rules R4 and R6

func TestAKeyIsNotKept(t *testing.T) {
	for _, many := range []int{1, 63, 64, 65, 200} {
		key, b := random(11, many), random(12, 90)
		was := slices.Clone(key)
		k, want := mac.Make(key), known(key, b)
		clear(key)
		if k.Tag(b) != want || !k.Fits(want[:], b) {
			t.Errorf("a key of %d changes with the bytes that it was made of", many)
		}
		copy(key, was)
		mac.Tag(key, b)
		k.Tag(b)
		if !bytes.Equal(key, was) {
			t.Errorf("a key of %d bytes is changed", many)
		}
	}
	room := append(make([]byte, 0, 128), "key"...)
	mac.Make(room)
	mac.Tag(room)
	if !bytes.Equal(room[:128], append([]byte("key"), make([]byte, 125)...)) {
		t.Error("Make wrote behind the key that it was handed")
	}
}

func TestPartsAreNeitherChangedNorKept(t *testing.T) {
	key, b := random(13, 30), random(14, 130)
	was, want := slices.Clone(b), known(key, b)
	k := mac.Make(key)
	parts := [][]byte{b[:50], b[50:50], b[50:]}
	tag := k.Tag(parts...)
	given := slices.Clone(tag[:])
	if tag != want || !k.Fits(given, parts...) || mac.Tag(key, parts...) != want {
		t.Error("the tag is another one")
	}
	if !bytes.Equal(b, was) || !bytes.Equal(given, want[:]) || len(parts[0]) != 50 || len(parts[1]) != 0 || len(parts[2]) != 80 {
		t.Error("parts, or a tag, are changed")
	}
	clear(b)
	if tag != want {
		t.Error("a tag changes with the parts")
	}
}

func TestAKeyStaysAsItIs(t *testing.T) {
	key, other := random(15, 40), random(16, 80)
	k, l := mac.Make(key), mac.Make(other)
	for i := range 20 {
		b := random(int64(i), i*9)
		want := known(key, b)
		if k.Tag(b) != want || k.Tag(b) != want || !k.Fits(want[:], b) || k.Fits(want[:31], b) || !k.Fits(want[:], b) {
			t.Fatalf("%d: a key answers otherwise the second time", i)
		}
		if l.Tag(b) != known(other, b) || l.Fits(want[:], b) {
			t.Fatalf("%d: two keys share something", i)
		}
	}
	tag := k.Tag(nil)
	tag[0]++
	if k.Tag(nil) != known(key, nil) {
		t.Error("a tag is a key's own")
	}
}
