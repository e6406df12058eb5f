package field_test

import (
	"bytes"
	"math"
	"math/rand"
	"reflect"
	"slices"
	"strings"
	"testing"

	"tiltyard/api"
	"tiltyard/field"
)

// widths are the letters' least bytes, as the chapter tells them.
var widths = map[byte]int{'b': 1, 'w': 2, 'd': 4, 'q': 8, 's': 1, 'l': 1}

// same holds fields against each other, for which an empty list and a nil one are one.
func same(a, b field.Fields) bool {
	return slices.Equal(a.N, b.N) && slices.Equal(a.S, b.S) && slices.EqualFunc(a.L, b.L, slices.Equal[[]uint32])
}

func counting(many int) []uint32 {
	list := make([]uint32, many)
	for i := range list {
		list[i] = uint32(i) * 0x01010101
	}
	return list
}

// P1.1

func TestLettersAreShapes(t *testing.T) {
	for c := range 256 {
		shape := string([]byte{byte(c)})
		width, is := widths[byte(c)]
		if !is {
			width = -1
		}
		if field.Right(shape) != is || field.Least(shape) != width {
			t.Errorf("%q: Right %v, Least %d", shape, field.Right(shape), field.Least(shape))
		}
	}
}

func TestRightAndLeast(t *testing.T) {
	for shape, least := range map[string]int{
		"":             0,
		"bwdqsl":       17,
		"qsl":          10,
		"bws":          4,
		"qqqqqqqq":     64,
		"llllllll":     8,
		"bbbbbbbb":     8,
		"bbbbbbbbb":    -1,
		"bwdqslbwd":    -1,
		"x":            -1,
		"B":            -1,
		"bwx":          -1,
		"xbw":          -1,
		"bbbbbbbx":     -1,
		"b w":          -1,
		"b\x00":        -1,
		"bé":           -1,
		"\xff":         -1,
		"дддддддд":     -1,
		"bbbbbbbbbbbb": -1,
	} {
		if got := field.Least(shape); got != least {
			t.Errorf("Least of %q is %d, not %d", shape, got, least)
		}
		if got := field.Right(shape); got != (least >= 0) {
			t.Errorf("Right of %q is %v", shape, got)
		}
	}
	if long := strings.Repeat("b", 1<<16); field.Right(long) || field.Least(long) != -1 {
		t.Error("a shape of many letters is none")
	}
}

func TestLeastIsTheLeast(t *testing.T) {
	for _, shape := range []string{"", "b", "w", "d", "q", "s", "l", "bwdqsl", "sslb"} {
		f := field.Fields{}
		for _, c := range shape {
			switch c {
			case 's':
				f.S = append(f.S, "")
			case 'l':
				f.L = append(f.L, nil)
			default:
				f.N = append(f.N, 0)
			}
		}
		b, e := field.Write(shape, f)
		if e != api.OK || len(b) != field.Least(shape) {
			t.Errorf("%q: nothings are %d bytes (error %d), Least is %d", shape, len(b), e, field.Least(shape))
		}
	}
}

func TestPut(t *testing.T) {
	const n = 0x0102030405060708
	all := []byte{1, 2, 3, 4, 5, 6, 7, 8}
	for _, many := range []int{math.MinInt, math.MinInt/8 + 1, -8, -1, 0, 1, 2, 3, 4, 5, 6, 7, 8, 9, 64, 1 << 20, math.MaxInt} {
		for _, b := range [][]byte{nil, {}, {9}, {9, 0, 255}} {
			want := append(slices.Clone(b), all[8-min(max(many, 0), 8):]...)
			if got := field.Put(b, n, many); !bytes.Equal(got, want) {
				t.Errorf("Put(%v, .., %d) is %v, not %v", b, many, got, want)
			}
		}
	}
	if got := field.Put(nil, math.MaxUint64, 8); !bytes.Equal(got, bytes.Repeat([]byte{255}, 8)) {
		t.Errorf("the greatest number is %v", got)
	}
	if got := field.Put(nil, 0x1234, 1); !bytes.Equal(got, []byte{0x34}) {
		t.Errorf("the lowest byte of 1234 is %v", got)
	}
}

func TestPutSharesNothing(t *testing.T) {
	for _, many := range []int{-1, 0, 1, 8, 9} {
		room := []byte{1, 2, 3, 4, 5, 6, 7, 8, 9, 10, 11, 12}
		was := slices.Clone(room)
		got := field.Put(room[:2], math.MaxUint64, many)
		if !bytes.Equal(room, was) {
			t.Errorf("Put of %d wrote into what was handed in: %v", many, room)
		}
		got[0] = 99
		if !bytes.Equal(room, was) {
			t.Errorf("Put of %d answers what was handed in", many)
		}
	}
}

func TestTake(t *testing.T) {
	b := []byte{1, 2, 3, 4, 5, 6, 7, 8, 9}
	var n uint64
	for many := 1; many <= 8; many++ {
		n = n*256 + uint64(many)
		if got, rest, is := field.Take(b, many); got != n || !bytes.Equal(rest, b[many:]) || !is {
			t.Errorf("Take of %d: %x %v %v", many, got, rest, is)
		}
		if got, rest, is := field.Take(b[:many], many); got != n || len(rest) != 0 || !is {
			t.Errorf("Take of all %d: %x %v %v", many, got, rest, is)
		}
		if got, rest, is := field.Take(b[:many-1], many); got != 0 || rest != nil || is {
			t.Errorf("Take of %d of one less: %x %v %v", many, got, rest, is)
		}
	}
	if got, _, is := field.Take(bytes.Repeat([]byte{255}, 8), 8); got != math.MaxUint64 || !is {
		t.Errorf("the greatest number is %x", got)
	}
}

func TestTakeOfSoManyThatCannotBe(t *testing.T) {
	b := bytes.Repeat([]byte{7}, 100)
	for _, many := range []int{math.MinInt, -8, -1, 0, 9, 10, 100, 101, math.MaxInt} {
		for _, b := range [][]byte{nil, {}, b} {
			if n, rest, is := field.Take(b, many); n != 0 || rest != nil || is {
				t.Errorf("Take of %d of %d bytes: %d %v %v", many, len(b), n, rest, is)
			}
		}
	}
}

func TestTakeSharesNothing(t *testing.T) {
	b := []byte{1, 2, 3, 4}
	_, rest, _ := field.Take(b, 1)
	rest[0] = 99
	if !bytes.Equal(b, []byte{1, 2, 3, 4}) {
		t.Error("Take answers what was handed in")
	}
	_, rest, _ = field.Take(b, 1)
	b[1] = 77
	if rest[0] != 2 {
		t.Error("what Take answered changes with what was handed in")
	}
}

// P1.2

func TestWrite(t *testing.T) {
	for _, c := range []struct {
		shape string
		f     field.Fields
		want  string
	}{
		{"", field.Fields{}, ""},
		{"", field.Fields{N: []uint64{}, S: []string{}, L: [][]uint32{}}, ""},
		{"bws", field.Fields{N: []uint64{7, 258}, S: []string{"ab"}}, "\x07\x01\x02\x02ab"},
		{"b", field.Fields{N: []uint64{0}}, "\x00"},
		{"d", field.Fields{N: []uint64{0x01020304}}, "\x01\x02\x03\x04"},
		{"q", field.Fields{N: []uint64{0x0102030405060708}}, "\x01\x02\x03\x04\x05\x06\x07\x08"},
		{"s", field.Fields{S: []string{""}}, "\x00"},
		{"s", field.Fields{S: []string{"\x00\xff\xc3"}}, "\x03\x00\xff\xc3"},
		{"s", field.Fields{S: []string{"é"}}, "\x02\xc3\xa9"},
		{"l", field.Fields{L: [][]uint32{nil}}, "\x00"},
		{"l", field.Fields{L: [][]uint32{{5, 256}}}, "\x02\x00\x00\x00\x05\x00\x00\x01\x00"},
		{"l", field.Fields{L: [][]uint32{{math.MaxUint32}}}, "\x01\xff\xff\xff\xff"},
		{"sbs", field.Fields{N: []uint64{9}, S: []string{"a", "b"}}, "\x01a\x09\x01b"},
		{"lbl", field.Fields{N: []uint64{9}, L: [][]uint32{{1}, {}}}, "\x01\x00\x00\x00\x01\x09\x00"},
		{"lwsb", field.Fields{N: []uint64{1, 2}, S: []string{"x"}, L: [][]uint32{{3}}}, "\x01\x00\x00\x00\x03\x00\x01\x01x\x02"},
		{"bbbbbbbb", field.Fields{N: []uint64{1, 2, 3, 4, 5, 6, 7, 8}}, "\x01\x02\x03\x04\x05\x06\x07\x08"},
	} {
		got, e := field.Write(c.shape, c.f)
		if e != api.OK || string(got) != c.want {
			t.Errorf("Write of %q and %v: %v, error %d", c.shape, c.f, got, e)
		}
		back, e := field.Read(c.shape, []byte(c.want))
		if e != api.OK || !same(back, c.f) {
			t.Errorf("Read of %q and %q: %v, error %d", c.shape, c.want, back, e)
		}
	}
}

func TestWriteOfNoShape(t *testing.T) {
	one := field.Fields{N: []uint64{1}, S: []string{"a"}, L: [][]uint32{{1}}}
	for _, c := range []struct {
		shape string
		f     field.Fields
	}{
		{"x", field.Fields{}},
		{"x", field.Fields{N: []uint64{1}}},
		{"bx", field.Fields{N: []uint64{1}}},
		{"bbbbbbbbb", field.Fields{N: make([]uint64, 9)}},
		{"é", field.Fields{N: make([]uint64, 2)}},
		{"", one},
		{"b", one},
		{"b", field.Fields{}},
		{"b", field.Fields{N: []uint64{1, 2}}},
		{"bb", field.Fields{N: []uint64{1}}},
		{"s", field.Fields{}},
		{"s", field.Fields{N: []uint64{1}}},
		{"s", field.Fields{S: []string{"", ""}}},
		{"l", field.Fields{}},
		{"l", field.Fields{S: []string{""}}},
		{"l", field.Fields{L: [][]uint32{nil, nil}}},
		{"bs", field.Fields{N: []uint64{1, 2}}},
		{"bsl", field.Fields{N: []uint64{1}, S: []string{""}, L: [][]uint32{nil, nil}}},
		// The shape counts ahead of what does not fit.
		{"b", field.Fields{N: []uint64{256, 1}}},
		{"x", field.Fields{S: []string{strings.Repeat("a", 256)}}},
		{"bs", field.Fields{N: []uint64{256}}},
	} {
		if b, e := field.Write(c.shape, c.f); e != api.ErrShape || b != nil {
			t.Errorf("Write of %q and %v: %v, error %d", c.shape, c.f, b, e)
		}
	}
}

func TestNumbersJustFit(t *testing.T) {
	for shape, most := range map[string]uint64{"b": math.MaxUint8, "w": math.MaxUint16, "d": math.MaxUint32} {
		if b, e := field.Write(shape, field.Fields{N: []uint64{most}}); e != api.OK || !bytes.Equal(b, bytes.Repeat([]byte{255}, widths[shape[0]])) {
			t.Errorf("%d does not fit %q: %v, error %d", most, shape, b, e)
		}
		for _, n := range []uint64{most + 1, most << 1, 1 << 63, math.MaxUint64} {
			if b, e := field.Write(shape, field.Fields{N: []uint64{n}}); e != api.ErrRange || b != nil {
				t.Errorf("%d in %q: %v, error %d", n, shape, b, e)
			}
		}
	}
	if b, e := field.Write("q", field.Fields{N: []uint64{math.MaxUint64}}); e != api.OK || len(b) != 8 {
		t.Errorf("the greatest number: %v, error %d", b, e)
	}
}

func TestTextsAndListsJustFit(t *testing.T) {
	text, list := strings.Repeat("é", 127)+"x", counting(255)
	b, e := field.Write("sl", field.Fields{S: []string{text}, L: [][]uint32{list}})
	if e != api.OK || len(b) != 1+255+1+4*255 || b[0] != 255 || b[256] != 255 {
		t.Fatalf("255 and 255: %d bytes, error %d", len(b), e)
	}
	back, e := field.Read("sl", b)
	if e != api.OK || back.S[0] != text || !slices.Equal(back.L[0], list) {
		t.Errorf("255 and 255 are not read as they were: error %d", e)
	}
	for _, many := range []int{256, 257, 511, 512, 1 << 16} {
		if b, e := field.Write("s", field.Fields{S: []string{strings.Repeat("a", many)}}); e != api.ErrRange || b != nil {
			t.Errorf("a text of %d: %v, error %d", many, b, e)
		}
		if b, e := field.Write("l", field.Fields{L: [][]uint32{counting(many)}}); e != api.ErrRange || b != nil {
			t.Errorf("a list of %d: %v, error %d", many, b, e)
		}
	}
	// 128 letters of two bytes are 256 bytes.
	if _, e := field.Write("s", field.Fields{S: []string{strings.Repeat("é", 128)}}); e != api.ErrRange {
		t.Errorf("a text counts by its bytes: error %d", e)
	}
}

func TestWrongFieldAnywhere(t *testing.T) {
	long, many := strings.Repeat("a", 256), counting(256)
	for _, f := range []field.Fields{
		{N: []uint64{256, 1}, S: []string{"", ""}, L: [][]uint32{nil, nil}},
		{N: []uint64{1, 65536}, S: []string{"", ""}, L: [][]uint32{nil, nil}},
		{N: []uint64{1, 1}, S: []string{long, ""}, L: [][]uint32{nil, nil}},
		{N: []uint64{1, 1}, S: []string{"", long}, L: [][]uint32{nil, nil}},
		{N: []uint64{1, 1}, S: []string{"", ""}, L: [][]uint32{many, nil}},
		{N: []uint64{1, 1}, S: []string{"", ""}, L: [][]uint32{nil, many}},
	} {
		if b, e := field.Write("bslwsl", f); e != api.ErrRange || b != nil {
			t.Errorf("%d bytes, error %d", len(b), e)
		}
	}
}

func TestReadOfNoShape(t *testing.T) {
	for _, shape := range []string{"x", "bx", "bbbbbbbbb", "\xff", "b b"} {
		for _, b := range [][]byte{nil, {}, {1}, make([]byte, 9), make([]byte, 2000)} {
			if f, e := field.Read(shape, b); e != api.ErrShape || !reflect.DeepEqual(f, field.Fields{}) {
				t.Errorf("Read of %q and %d bytes: %v, error %d", shape, len(b), f, e)
			}
		}
	}
}

func TestReadOfBytesThatEnd(t *testing.T) {
	whole := field.Fields{N: []uint64{1, 2, 3, 4}, S: []string{"abc", ""}, L: [][]uint32{{5, 6}, {7}}}
	for _, shape := range []string{"bwdqslsl", "lslsqdwb", "slbwdqls"} {
		f := whole
		if shape == "lslsqdwb" {
			f.N = []uint64{4, 3, 2, 1}
		}
		b, e := field.Write(shape, f)
		if e != api.OK {
			t.Fatalf("%q: error %d", shape, e)
		}
		for many := range b {
			if f, e := field.Read(shape, b[:many]); e != api.ErrShort || !reflect.DeepEqual(f, field.Fields{}) {
				t.Errorf("%q, %d of %d bytes: %v, error %d", shape, many, len(b), f, e)
			}
		}
		if back, e := field.Read(shape, b); e != api.OK || !same(back, f) {
			t.Errorf("%q: %v, error %d", shape, back, e)
		}
		for more := 1; more < 12; more++ {
			if f, e := field.Read(shape, append(slices.Clone(b), make([]byte, more)...)); e != api.ErrLong || !reflect.DeepEqual(f, field.Fields{}) {
				t.Errorf("%q, %d bytes left: %v, error %d", shape, more, f, e)
			}
		}
	}
}

func TestReadOfWrongBytes(t *testing.T) {
	for _, c := range []struct {
		shape, b string
		e        api.Errno
	}{
		{"", "", api.OK},
		{"", "\x00", api.ErrLong},
		{"b", "", api.ErrShort},
		{"w", "\x01", api.ErrShort},
		{"d", "\x01\x02\x03", api.ErrShort},
		{"q", "\x01\x02\x03\x04\x05\x06\x07", api.ErrShort},
		{"s", "", api.ErrShort},
		{"s", "\x01", api.ErrShort},
		{"s", "\x02a", api.ErrShort},
		{"s", "\xffabc", api.ErrShort},
		{"s", "\x00a", api.ErrLong},
		{"l", "", api.ErrShort},
		{"l", "\x01\x00\x00\x00", api.ErrShort},
		{"l", "\x02\x00\x00\x00\x01", api.ErrShort},
		{"l", "\x00\x00", api.ErrLong},
		{"l", "\x01\x00\x00\x00\x01\x02", api.ErrLong},
		{"b", "\x01\x02", api.ErrLong},
		// A text that is too short leaves nothing to what stands behind it.
		{"sb", "\x02a", api.ErrShort},
		{"ss", "\x05a\x00", api.ErrShort},
		{"lb", "\x01\x00\x00\x00", api.ErrShort},
		{"ls", "\x01\x00\x00\x00", api.ErrShort},
		{"qb", "\x00\x00\x00", api.ErrShort},
	} {
		if f, e := field.Read(c.shape, []byte(c.b)); e != c.e || !same(f, field.Fields{}) {
			t.Errorf("Read of %q and %q: %v, error %d, not %d", c.shape, c.b, f, e, c.e)
		}
	}
}

// P1.3

func randomFields(r *rand.Rand, shape string) field.Fields {
	var f field.Fields
	for i := range len(shape) {
		switch c := shape[i]; c {
		case 's':
			text := make([]byte, r.Intn(256))
			r.Read(text)
			f.S = append(f.S, string(text))
		case 'l':
			list := make([]uint32, r.Intn(256))
			for i := range list {
				list[i] = r.Uint32()
			}
			f.L = append(f.L, list)
		default:
			f.N = append(f.N, r.Uint64()>>(64-8*widths[c]))
		}
	}
	return f
}

func randomShape(r *rand.Rand) string {
	shape := make([]byte, r.Intn(9))
	for i := range shape {
		shape[i] = "bwdqsl"[r.Intn(6)]
	}
	return string(shape)
}

func TestWhatIsWrittenIsReadAsItWas(t *testing.T) {
	r := rand.New(rand.NewSource(1))
	for range 3000 {
		shape := randomShape(r)
		f := randomFields(r, shape)
		b, e := field.Write(shape, f)
		if e != api.OK || len(b) < field.Least(shape) {
			t.Fatalf("%q and %v: %d bytes, error %d", shape, f, len(b), e)
		}
		if back, e := field.Read(shape, b); e != api.OK || !same(back, f) {
			t.Fatalf("%q: %v is read as %v, error %d", shape, f, back, e)
		}
	}
}

func TestWhatIsReadIsWrittenAsItWas(t *testing.T) {
	r := rand.New(rand.NewSource(2))
	read := 0
	for range 100000 {
		shape, b := randomShape(r), make([]byte, r.Intn(24))
		for i := range b {
			b[i] = byte(r.Intn(5))
		}
		f, e := field.Read(shape, b)
		if e == api.ErrShort || e == api.ErrLong {
			continue
		}
		read++
		if back, again := field.Write(shape, f); e != api.OK || again != api.OK || !bytes.Equal(back, b) {
			t.Fatalf("%q: %v is written as %v, errors %d %d", shape, b, back, e, again)
		}
	}
	if read < 1000 {
		t.Errorf("only %d were read", read)
	}
}

func TestNumbersPutAreTaken(t *testing.T) {
	r := rand.New(rand.NewSource(3))
	for range 1000 {
		many := 1 + r.Intn(8)
		n := r.Uint64() >> (64 - 8*many)
		b := append(field.Put(nil, n, many), 1, 2)
		if got, rest, is := field.Take(b, many); got != n || !bytes.Equal(rest, []byte{1, 2}) || !is {
			t.Fatalf("%x of %d bytes: %x %v %v", n, many, got, rest, is)
		}
	}
}

// The rules R4 and R6

func TestWriteKeepsWhatIsHandedIn(t *testing.T) {
	whole := func() field.Fields {
		return field.Fields{N: []uint64{1, 2}, S: []string{"a", "b"}, L: [][]uint32{{3, 4}, {5}}}
	}
	f := whole()
	a, _ := field.Write("bslbsl", f)
	b, _ := field.Write("bslbsl", f)
	if !reflect.DeepEqual(f, whole()) {
		t.Errorf("Write changed its fields: %v", f)
	}
	if !bytes.Equal(a, b) {
		t.Errorf("twice the same: %v and %v", a, b)
	}
	a[0] = 99
	if b[0] != 1 {
		t.Error("two answers share their bytes")
	}
	field.Write("bslbsl", field.Fields{N: []uint64{1, 256}, S: f.S, L: f.L})
	if !reflect.DeepEqual(f, whole()) {
		t.Errorf("Write with an error changed its fields: %v", f)
	}
}

func TestReadSharesNothing(t *testing.T) {
	const shape, text = "lsls", "\x02\x00\x00\x00\x01\x00\x00\x00\x02\x01a\x01\x00\x00\x00\x03\x01b"
	b := []byte(text)
	f, _ := field.Read(shape, b)
	g, _ := field.Read(shape, b)
	want := field.Fields{S: []string{"a", "b"}, L: [][]uint32{{1, 2}, {3}}}
	for i := range b {
		b[i] = 77
	}
	if !same(f, want) {
		t.Errorf("what was read changes with its bytes: %v", f)
	}
	// What a caller puts behind a list does not come into another one.
	_ = append(f.L[0], 9, 9, 9)
	f.L[0][0], f.S[0] = 99, "z"
	_ = append(f.L, nil)
	if f.L[1][0] != 3 || !same(g, want) {
		t.Errorf("lists share their numbers: %v %v", f, g)
	}
}

func TestReadKeepsItsBytes(t *testing.T) {
	const text = "\x01\x02ab\x01\x00\x00\x00\x03"
	b := []byte(text)
	for _, shape := range []string{"bsl", "bs", "bslb"} {
		field.Read(shape, b)
		field.Take(b, 4)
		if string(b) != text {
			t.Errorf("%q: the bytes are %q", shape, b)
		}
	}
}
