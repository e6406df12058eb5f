package reel_test

import (
	"bytes"
	"encoding/binary"
	"math"
	"math/rand"
	"reflect"
	"slices"
	"testing"

	"tiltyard/api"
	"tiltyard/plan"
	"tiltyard/reel"
	"tiltyard/server"
)

// The calls are just these.
var (
	_ func(reel.Event) bool                              = reel.Right
	_ func(...reel.Event) ([]byte, api.Errno)            = reel.Encode
	_ func([]byte) ([]reel.Event, int, api.Errno)        = reel.Decode
	_ func(*server.Server, reel.Event) reel.Answer       = reel.Play
	_ func(...reel.Answer) []byte                        = reel.Tell
	_ func(plan.Config, []byte) ([]byte, int, api.Errno) = reel.Run
	_                                                    = reel.Event{Kind: 1, Id: 1, Number: 1, Bytes: nil}
	_                                                    = reel.Answer{Err: api.OK, Ticket: "", Sends: []server.Send(nil)}
)

// has tells what an event of a kind has, as the chapter's table says: i an id, n a number, b bytes.
var has = map[int]string{1: "in", 2: "n", 3: "i", 4: "i", 5: "ib", 6: "ib", 7: "n", 8: "in"}

// right tells whether an event is right, as the chapter says.
func right(e reel.Event) bool {
	h, is := has[e.Kind]
	for _, c := range h {
		switch c {
		case 'i':
			e.Id = 0
		case 'n':
			e.Number = 0
		case 'b':
			if len(e.Bytes) <= 65535 {
				e.Bytes = nil
			}
		}
	}
	return is && e.Id == 0 && e.Number == 0 && len(e.Bytes) == 0
}

// raw is an event's bytes, right or not, as the chapter says; it says that it has so many bytes.
func raw(e reel.Event, many int) []byte {
	b := []byte{byte(e.Kind)}
	b = binary.BigEndian.AppendUint32(b, e.Id)
	b = binary.BigEndian.AppendUint64(b, e.Number)
	b = binary.BigEndian.AppendUint16(b, uint16(many))
	return append(b, e.Bytes...)
}

// rawAll is the bytes of events, one behind the other.
func rawAll(l ...reel.Event) []byte {
	var b []byte
	for _, e := range l {
		b = append(b, raw(e, len(e.Bytes))...)
	}
	return b
}

// same tells whether events are the same; a list of bytes that is nil is one that is empty.
func same(a, b []reel.Event) bool {
	return slices.EqualFunc(a, b, func(x, y reel.Event) bool {
		return x.Kind == y.Kind && x.Id == y.Id && x.Number == y.Number && bytes.Equal(x.Bytes, y.Bytes)
	})
}

// events are some of every kind, with least and greatest of what it has, and with what it does not have.
func events() []reel.Event {
	var l []reel.Event
	for _, kind := range []int{math.MinInt, -1, 0, 1, 2, 3, 4, 5, 6, 7, 8, 9, 255, 256, 257, 263, math.MaxInt} {
		for _, id := range []uint32{0, 1, 1<<31 - 1, 1 << 31, math.MaxUint32} {
			for _, number := range []uint64{0, 1, 1 << 63, math.MaxUint64} {
				for _, many := range []int{-1, 0, 1, 300, 65535, 65536, 65537, 70000} {
					e := reel.Event{Kind: kind, Id: id, Number: number}
					if many >= 0 {
						e.Bytes = bytes.Repeat([]byte{7}, many)
					}
					l = append(l, e)
				}
			}
		}
	}
	return l
}

// P27.1: what is right, and what Encode makes of it.
func TestRight(t *testing.T) {
	kinds := map[int]int{}
	for _, e := range events() {
		is := right(e)
		if reel.Right(e) != is {
			t.Fatalf("Right(%d, %d, %d, %d bytes) is %v", e.Kind, e.Id, e.Number, len(e.Bytes), !is)
		}
		b, err := reel.Encode(e)
		switch {
		case !is && (err != api.ErrRange || b != nil):
			t.Fatalf("Encode(%d, %d, %d, %d bytes): error %d, %d bytes", e.Kind, e.Id, e.Number, len(e.Bytes), err, len(b))
		case is && (err != api.OK || !bytes.Equal(b, raw(e, len(e.Bytes)))):
			t.Fatalf("Encode(%d, %d, %d, %d bytes): error %d", e.Kind, e.Id, e.Number, len(e.Bytes), err)
		case is:
			kinds[e.Kind]++
		}
	}
	if len(kinds) != 8 {
		t.Errorf("right are only %v", kinds)
	}
}

// P27.1 and the example: Encode of several, of none, and of several of which one is wrong.
func TestEncode(t *testing.T) {
	if b, e := reel.Encode(reel.Event{Kind: 3, Id: 9}); e != api.OK || !bytes.Equal(b, []byte{3, 0, 0, 0, 9, 0, 0, 0, 0, 0, 0, 0, 0, 0, 0}) {
		t.Errorf("the example: error %d, %v", e, b)
	}
	want := []byte{
		1, 1, 2, 3, 4, 5, 6, 7, 8, 9, 10, 11, 12, 0, 0,
		2, 0, 0, 0, 0, 255, 254, 253, 252, 251, 250, 249, 248, 0, 0,
		6, 255, 0, 0, 1, 0, 0, 0, 0, 0, 0, 0, 0, 0, 3, 9, 8, 7,
		7, 0, 0, 0, 0, 255, 255, 255, 255, 255, 255, 255, 255, 0, 0,
	}
	l := []reel.Event{
		{Kind: 1, Id: 0x01020304, Number: 0x05060708090a0b0c},
		{Kind: 2, Number: 0xfffefdfcfbfaf9f8},
		{Kind: 6, Id: 0xff000001, Bytes: []byte{9, 8, 7}},
		{Kind: 7, Number: math.MaxUint64, Bytes: []byte{}},
	}
	if b, e := reel.Encode(l...); e != api.OK || !bytes.Equal(b, want) {
		t.Errorf("error %d\n got %v\nwant %v", e, b, want)
	}
	if m, at, e := reel.Decode(want); e != api.OK || at != 0 || !same(m, l) {
		t.Errorf("error %d, %d, %v", e, at, m)
	}
	if b, e := reel.Encode(); e != api.OK || len(b) != 0 {
		t.Errorf("of none: error %d, %v", e, b)
	}
	for at := range len(l) + 1 {
		wrong := slices.Insert(slices.Clone(l), at, reel.Event{Kind: 4, Id: 1, Number: 1})
		if b, e := reel.Encode(wrong...); e != api.ErrRange || b != nil {
			t.Errorf("%d is wrong: error %d, %v", at, e, b)
		}
	}
	long := reel.Event{Kind: 5, Bytes: make([]byte, 0x1234)}
	if b, e := reel.Encode(long); e != api.OK || len(b) != 15+0x1234 || b[13] != 0x12 || b[14] != 0x34 {
		t.Errorf("a long one: error %d, %d bytes", e, len(b))
	}
}

// P27.1: of a reel that ends anywhere within an event that event's number is told, and ErrShort.
func TestShort(t *testing.T) {
	l := []reel.Event{{Kind: 3, Id: 9}, {Kind: 5, Id: 9, Bytes: []byte{1, 2, 3}}, {Kind: 2}, {Kind: 6, Bytes: make([]byte, 260)}}
	b := rawAll(l...)
	ends := map[int]int{0: 0, 15: 1, 33: 2, 48: 3, len(b): 4}
	number := 0
	for end := range len(b) + 1 {
		m, at, e := reel.Decode(b[:end])
		if n, is := ends[end]; is {
			number = n
			if e != api.OK || at != 0 || !same(m, l[:n]) {
				t.Errorf("%d bytes: error %d, %d, %v", end, e, at, m)
			}
			continue
		}
		if e != api.ErrShort || at != number || m != nil {
			t.Errorf("%d bytes: error %d, %d, %v", end, e, at, m)
		}
	}
	if m, at, e := reel.Decode(nil); e != api.OK || at != 0 || len(m) != 0 {
		t.Errorf("of none: error %d, %d, %v", e, at, m)
	}
	most := rawAll(reel.Event{Kind: 5, Bytes: make([]byte, 65535)})
	if m, at, e := reel.Decode(most); e != api.OK || at != 0 || len(m) != 1 || len(m[0].Bytes) != 65535 {
		t.Errorf("of the longest: error %d, %d", e, at)
	}
	if _, at, e := reel.Decode(most[:len(most)-1]); e != api.ErrShort || at != 0 {
		t.Errorf("of the longest, cut off: error %d, %d", e, at)
	}
}

// P27.1: of a reel with an event that is not right its number is told, and ErrRange; ErrShort counts ahead of that, and the first event that is wrong ahead of all others.
func TestWrong(t *testing.T) {
	good := []reel.Event{{Kind: 3, Id: 9}, {Kind: 5, Id: 9, Bytes: []byte{1, 2, 3}}, {Kind: 8, Id: 1, Number: 5}}
	tried := 0
	for _, e := range events() {
		if e.Kind < 0 || e.Kind > 255 || len(e.Bytes) > 65535 || right(e) {
			continue
		}
		tried++
		at := tried % 4
		wrong := slices.Insert(slices.Clone(good), at, e)
		if l, n, err := reel.Decode(rawAll(wrong...)); err != api.ErrRange || n != at || l != nil {
			t.Fatalf("%d is (%d, %d, %d, %d bytes): error %d, %d, %v", at, e.Kind, e.Id, e.Number, len(e.Bytes), err, n, l)
		}
	}
	if tried < 500 {
		t.Errorf("only %d", tried)
	}
	bad := rawAll(reel.Event{Kind: 9}, reel.Event{Kind: 0, Bytes: []byte{1, 2}})
	for end, want := range map[int]struct {
		at int
		e  api.Errno
	}{14: {0, api.ErrShort}, 15: {0, api.ErrRange}, 20: {0, api.ErrRange}, len(bad): {0, api.ErrRange}} {
		if l, at, e := reel.Decode(bad[:end]); e != want.e || at != want.at || l != nil {
			t.Errorf("%d bytes: error %d, %d, %v", end, e, at, l)
		}
	}
	// It is not right, and ends within its bytes.
	if l, at, e := reel.Decode(append(rawAll(good...), raw(reel.Event{Kind: 9, Bytes: []byte{1}}, 2)...)); e != api.ErrShort || at != 3 || l != nil {
		t.Errorf("wrong, and short: error %d, %d, %v", e, at, l)
	}
	if l, at, e := reel.Decode(append(raw(reel.Event{Kind: 3, Id: 1, Bytes: []byte{7}}, 1), 1, 2)); e != api.ErrRange || at != 0 || l != nil {
		t.Errorf("wrong, and a short one behind it: error %d, %d, %v", e, at, l)
	}
}

// P27.3: what is encoded is decoded to what it was, and the other way round; what can't be decoded is no reel.
func TestToAndFro(t *testing.T) {
	r := rand.New(rand.NewSource(1))
	good, bad := 0, 0
	for range 20000 {
		var l []reel.Event
		for range r.Intn(5) {
			l = append(l, someRight(r))
		}
		b, e := reel.Encode(l...)
		if e != api.OK || !bytes.Equal(b, rawAll(l...)) {
			t.Fatalf("%v: error %d, %v", l, e, b)
		}
		if m, at, e := reel.Decode(b); e != api.OK || at != 0 || !same(m, l) {
			t.Fatalf("%v: error %d, %d, %v", l, e, at, m)
		}
		if len(b) == 0 {
			continue
		}
		// A byte is changed: it is a reel still, or it is told where it is none.
		i := r.Intn(len(b))
		b[i] = byte(r.Intn(256))
		m, at, e := reel.Decode(b)
		if e != api.OK {
			bad++
			if n, err := wrongAt(b); m != nil || at != n || e != err {
				t.Fatalf("%v: error %d, %d, %v", b, e, at, m)
			}
			continue
		}
		good++
		if c, e := reel.Encode(m...); e != api.OK || !bytes.Equal(b, c) {
			t.Fatalf("%v: error %d, %v", b, e, c)
		}
	}
	if good < 2000 || bad < 2000 {
		t.Errorf("only %d and %d", good, bad)
	}
}

// wrongAt is which event of a reel is the first that is wrong, and what is wrong with it, as the chapter says.
func wrongAt(b []byte) (int, api.Errno) {
	for at := 0; len(b) > 0; at++ {
		if len(b) < 15 || len(b) < 15+int(b[13])*256+int(b[14]) {
			return at, api.ErrShort
		}
		end := 15 + int(b[13])*256 + int(b[14])
		e := reel.Event{Kind: int(b[0]), Id: binary.BigEndian.Uint32(b[1:]), Number: binary.BigEndian.Uint64(b[5:]), Bytes: b[15:end]}
		if !right(e) {
			return at, api.ErrRange
		}
		b = b[end:]
	}
	return 0, api.OK
}

// someRight is an event that is right, by chance.
func someRight(r *rand.Rand) reel.Event {
	e := reel.Event{Kind: 1 + r.Intn(8)}
	for _, c := range has[e.Kind] {
		switch c {
		case 'i':
			e.Id = r.Uint32()
		case 'n':
			e.Number = r.Uint64()
		case 'b':
			e.Bytes = make([]byte, r.Intn(20))
			r.Read(e.Bytes)
		}
	}
	return e
}

// R4: what is handed in is not changed and not kept, and answers share no memory, with it or with one another.
func TestMemory(t *testing.T) {
	l := []reel.Event{{Kind: 5, Id: 9, Bytes: []byte{1, 2, 3}}, {Kind: 6, Id: 1, Bytes: []byte{4, 5}}, {Kind: 5, Id: 2, Bytes: []byte{6}}}
	want := rawAll(l...)
	b, _ := reel.Encode(l...)
	c, _ := reel.Encode(l...)
	blot(b)
	if !bytes.Equal(c, want) || !bytes.Equal(rawAll(l...), want) {
		t.Errorf("Encode: %v, %v", c, l)
	}
	for _, e := range l {
		blot(e.Bytes)
	}
	if !bytes.Equal(c, want) {
		t.Errorf("Encode keeps what it is handed: %v", c)
	}
	in := append(make([]byte, 0, 1000), want...)
	m, _, _ := reel.Decode(in)
	n, _, _ := reel.Decode(in)
	if !bytes.Equal(in, want) {
		t.Errorf("Decode: %v", in)
	}
	blot(in)
	if !bytes.Equal(rawAll(m...), want) {
		t.Errorf("Decode keeps what it is handed: %v", m)
	}
	for i := range m {
		was := slices.Clone(n)
		blot(m[i].Bytes)
		m[i] = reel.Event{}
		if !reflect.DeepEqual(n, was) || !bytes.Equal(rawAll(m[i+1:]...), rawAll(n[i+1:]...)) {
			t.Errorf("Decode: events share memory: %v, %v", m, n)
		}
	}
}

// blot spoils bytes, and those that lie behind them.
func blot(b []byte) {
	for i := range b[:cap(b)] {
		b[:cap(b)][i] = 0xAA
	}
}
