package pass_test

import (
	"bytes"
	"crypto/hmac"
	"crypto/sha256"
	"encoding/binary"
	"math"
	"math/rand"
	"slices"
	"strings"
	"testing"

	"tiltyard/api"
	"tiltyard/mac"
	"tiltyard/pass"
)

var secret = []byte("key")

// times are the edges of a time, each side of nought, and some between.
var times = []int64{math.MinInt64, math.MinInt64 + 1, -1 << 40, -256, -2, -1, 0, 1, 2, 9, 10, 255, 256, 1 << 40, math.MaxInt64 - 1, math.MaxInt64}

// tagged is bytes with the library's tag behind them.
func tagged(key, b []byte) string {
	m := hmac.New(sha256.New, key)
	m.Write(b)
	return string(m.Sum(b[:len(b):len(b)]))
}

// ticketBytes and tokenBytes are what the chapter says of them, without the tag.
func ticketBytes(t pass.Ticket) []byte {
	b := binary.BigEndian.AppendUint32([]byte{116}, t.Player)
	return stamped(b, t.Stamp)
}

func tokenBytes(t pass.Token) []byte {
	b := binary.BigEndian.AppendUint32([]byte{106}, t.Player)
	b = binary.BigEndian.AppendUint32(b, t.Match)
	b = binary.BigEndian.AppendUint16(b, t.Instance)
	return stamped(append(b, t.Seat), t.Stamp)
}

func stamped(b []byte, s pass.Stamp) []byte {
	b = binary.BigEndian.AppendUint64(b, uint64(s.Expiry))
	return binary.BigEndian.AppendUint64(b, s.Nonce)
}

func ticket(player uint32, expiry int64, nonce uint64) pass.Ticket {
	return pass.Ticket{Player: player, Stamp: pass.Stamp{Expiry: expiry, Nonce: nonce}}
}

func token(player, match uint32, instance uint16, seat uint8, expiry int64, nonce uint64) pass.Token {
	return pass.Token{Player: player, Match: match, Instance: instance, Seat: seat, Stamp: pass.Stamp{Expiry: expiry, Nonce: nonce}}
}

// tickets and tokens are such as have each number at its least and at its greatest, and each byte another one.
func tickets() []pass.Ticket {
	l := []pass.Ticket{
		{},
		ticket(7, 9, 3),
		ticket(0x01020304, 0x05060708090a0b0c, 0x0d0e0f1011121314),
		ticket(math.MaxUint32, 0, 0),
		ticket(0, 0, math.MaxUint64),
		ticket(math.MaxUint32, -1, math.MaxUint64),
		ticket(116, 106, 53),
	}
	for _, time := range times {
		l = append(l, ticket(1, time, 2))
	}
	return l
}

func tokens() []pass.Token {
	l := []pass.Token{
		{},
		token(1, 2, 3, 4, -1, 5),
		token(0x01020304, 0x05060708, 0x090a, 0x0b, 0x0c0d0e0f10111213, 0x1415161718191a1b),
		token(math.MaxUint32, 0, 0, 0, 0, 0),
		token(0, math.MaxUint32, 0, 0, 0, 0),
		token(0, 0, math.MaxUint16, 0, 0, 0),
		token(0, 0, 0, math.MaxUint8, 0, 0),
		token(0, 0, 0, 0, 0, math.MaxUint64),
		token(math.MaxUint32, math.MaxUint32, math.MaxUint16, math.MaxUint8, -1, math.MaxUint64),
	}
	for _, time := range times {
		l = append(l, token(1, 2, 3, 4, time, 6))
	}
	return l
}

// keys are the bytes of keys about a block's length, and none.
func keys() [][]byte {
	var l [][]byte
	for i, many := range []int{0, 1, 3, 63, 64, 65, 200} {
		key := make([]byte, many)
		rand.New(rand.NewSource(int64(i))).Read(key)
		l = append(l, key)
	}
	return l
}

// noTicket tells whether a text is opened as none, with that error and nothing beside it; noToken likewise.
func noTicket(k *mac.Key, s string, want api.Errno) bool {
	t, e := pass.OpenTicket(k, s)
	return e == want && t == pass.Ticket{}
}

func noToken(k *mac.Key, s string, want api.Errno) bool {
	t, e := pass.OpenToken(k, s)
	return e == want && t == pass.Token{}
}

// P6.1

func TestOld(t *testing.T) {
	for _, expiry := range times {
		for _, now := range times {
			s := pass.Stamp{Expiry: expiry, Nonce: 7}
			old := now > expiry
			if s.Old(now) != old || ticket(1, expiry, 2).Old(now) != old || token(1, 2, 3, 4, expiry, 5).Old(now) != old {
				t.Errorf("at %d, with the expiry %d: %v", now, expiry, s.Old(now))
			}
		}
	}
	if a := ticket(1, 9, 2); !a.Old(10) || a.Old(9) {
		t.Error("the example")
	}
}

func TestOldIsOfTheExpiryAlone(t *testing.T) {
	for _, nonce := range []uint64{0, 1, math.MaxUint64} {
		if s := (pass.Stamp{Expiry: 9, Nonce: nonce}); s.Old(9) || !s.Old(10) {
			t.Errorf("with the nonce %d", nonce)
		}
	}
	if (pass.Stamp{}).Old(0) || !(pass.Stamp{}).Old(1) || (pass.Stamp{}).Old(-1) {
		t.Error("of a stamp that is nothing")
	}
}

func TestSealOfTickets(t *testing.T) {
	for _, key := range keys() {
		k := mac.Make(key)
		for _, a := range tickets() {
			want := tagged(key, ticketBytes(a))
			if got := a.Seal(k); got != want || len(got) != 53 {
				t.Errorf("%v by a key of %d bytes: %x, not %x", a, len(key), got, want)
			}
		}
	}
}

func TestSealOfTokens(t *testing.T) {
	for _, key := range keys() {
		k := mac.Make(key)
		for _, a := range tokens() {
			want := tagged(key, tokenBytes(a))
			if got := a.Seal(k); got != want || len(got) != 60 {
				t.Errorf("%v by a key of %d bytes: %x, not %x", a, len(key), got, want)
			}
		}
	}
}

// The bytes, written out once, so that the layout hangs on no other code.
func TestBytesThatAreSealed(t *testing.T) {
	k := mac.Make(secret)
	for _, c := range []struct{ got, want string }{
		{ticket(7, 9, 3).Seal(k), "t" + "\x00\x00\x00\x07" + "\x00\x00\x00\x00\x00\x00\x00\x09" + "\x00\x00\x00\x00\x00\x00\x00\x03"},
		{ticket(0x01020304, -2, 0xf0e0d0c0b0a09080).Seal(k), "t" + "\x01\x02\x03\x04" + "\xff\xff\xff\xff\xff\xff\xff\xfe" + "\xf0\xe0\xd0\xc0\xb0\xa0\x90\x80"},
		{ticket(1, math.MinInt64, 1).Seal(k), "t" + "\x00\x00\x00\x01" + "\x80\x00\x00\x00\x00\x00\x00\x00" + "\x00\x00\x00\x00\x00\x00\x00\x01"},
		{
			token(0x01020304, 0x05060708, 0x090a, 0x0b, 0x0c0d0e0f10111213, 0x1415161718191a1b).Seal(k),
			"j\x01\x02\x03\x04\x05\x06\x07\x08\x09\x0a\x0b\x0c\x0d\x0e\x0f\x10\x11\x12\x13\x14\x15\x16\x17\x18\x19\x1a\x1b",
		},
		{
			token(1, 2, 3, 4, -1, 5).Seal(k),
			"j" + "\x00\x00\x00\x01" + "\x00\x00\x00\x02" + "\x00\x03" + "\x04" + "\xff\xff\xff\xff\xff\xff\xff\xff" + "\x00\x00\x00\x00\x00\x00\x00\x05",
		},
	} {
		tag := mac.Tag(secret, []byte(c.want))
		if c.got != c.want+string(tag[:]) {
			t.Errorf("%x, not %x and its tag", c.got, c.want)
		}
	}
}

func TestSealByANilKey(t *testing.T) {
	noughts := strings.Repeat("\x00", 32)
	for _, a := range tickets() {
		if got := a.Seal(nil); got != string(ticketBytes(a))+noughts {
			t.Errorf("%v: %x", a, got)
		}
	}
	for _, a := range tokens() {
		if got := a.Seal(nil); got != string(tokenBytes(a))+noughts {
			t.Errorf("%v: %x", a, got)
		}
	}
}

// P6.2

func TestOpen(t *testing.T) {
	for _, key := range keys() {
		k := mac.Make(key)
		for _, want := range tickets() {
			if got, e := pass.OpenTicket(k, tagged(key, ticketBytes(want))); e != api.OK || got != want {
				t.Errorf("%v is opened as %v, error %d", want, got, e)
			}
		}
		for _, want := range tokens() {
			if got, e := pass.OpenToken(k, tagged(key, tokenBytes(want))); e != api.OK || got != want {
				t.Errorf("%v is opened as %v, error %d", want, got, e)
			}
		}
	}
}

func TestOpenAsksForTheLength(t *testing.T) {
	k := mac.Make(secret)
	for many := range 200 {
		for _, first := range []byte{116, 106, 0} {
			// A tag of its own behind it, if there is room for one, and one of all of it.
			b := make([]byte, many)
			if many > 0 {
				b[0] = first
			}
			texts := []string{string(b)}
			if many > 32 {
				texts = append(texts, tagged(secret, b[:many-32]))
			}
			for _, s := range texts {
				if many != 53 && !noTicket(k, s, api.ErrForm) {
					t.Errorf("%d bytes behind %d are a ticket, or another error's", many, first)
				}
				if many != 60 && !noToken(k, s, api.ErrForm) {
					t.Errorf("%d bytes behind %d are a token, or another error's", many, first)
				}
			}
		}
	}
	long := strings.Repeat("t", 1<<16+53)
	if !noTicket(k, long, api.ErrForm) || !noToken(k, long, api.ErrForm) {
		t.Error("a long text is a ticket or a token")
	}
}

func TestOpenOfOneByteMoreOrLess(t *testing.T) {
	k := mac.Make(secret)
	a, b := ticket(7, 9, 3).Seal(k), token(1, 2, 3, 4, 9, 5).Seal(k)
	for _, s := range []string{a[:52], a[1:], a + "\x00", "t" + a, a + a, ""} {
		if !noTicket(k, s, api.ErrForm) {
			t.Errorf("%x is a ticket, or another error's", s)
		}
	}
	for _, s := range []string{b[:59], b[1:], b + "\x00", "j" + b, b + b, ""} {
		if !noToken(k, s, api.ErrForm) {
			t.Errorf("%x is a token, or another error's", s)
		}
	}
}

func TestOpenAsksForTheFirstByte(t *testing.T) {
	k := mac.Make(secret)
	a, b := ticketBytes(ticket(7, 9, 3)), tokenBytes(token(1, 2, 3, 4, 9, 5))
	for first := range 256 {
		a[0], b[0] = byte(first), byte(first)
		// The form counts ahead of the tag, be it right or wrong, and be there a key or none.
		for _, tag := range []string{tagged(secret, a)[21:], strings.Repeat("\x00", 32)} {
			if s := string(a) + tag; first != 116 && (!noTicket(k, s, api.ErrForm) || !noTicket(nil, s, api.ErrForm)) {
				t.Errorf("what begins with %d is a ticket, or another error's", first)
			}
		}
		for _, tag := range []string{tagged(secret, b)[28:], strings.Repeat("\x00", 32)} {
			if s := string(b) + tag; first != 106 && (!noToken(k, s, api.ErrForm) || !noToken(nil, s, api.ErrForm)) {
				t.Errorf("what begins with %d is a token, or another error's", first)
			}
		}
	}
}

func TestOpenAsksForTheTag(t *testing.T) {
	k := mac.Make(secret)
	a, b := ticket(7, 9, 3).Seal(k), token(1, 2, 3, 4, 9, 5).Seal(k)
	for bit := 8; bit < 8*len(b); bit++ {
		turn := func(s string) string {
			l := []byte(s)
			l[bit/8] ^= 1 << (bit % 8)
			return string(l)
		}
		if bit < 8*len(a) && !noTicket(k, turn(a), api.ErrTag) {
			t.Errorf("a ticket with another bit %d is one, or another error's", bit)
		}
		if !noToken(k, turn(b), api.ErrTag) {
			t.Errorf("a token with another bit %d is one, or another error's", bit)
		}
	}
}

func TestOpenAsksForTheKey(t *testing.T) {
	for i, key := range keys() {
		k := mac.Make(key)
		a, b := ticket(7, 9, 3).Seal(k), token(1, 2, 3, 4, 9, 5).Seal(k)
		for j, other := range keys() {
			want := api.ErrTag
			if i == j {
				want = api.OK
			}
			_, e := pass.OpenTicket(mac.Make(other), a)
			_, f := pass.OpenToken(mac.Make(other), b)
			if e != want || f != want {
				t.Errorf("sealed by the key %d, opened by %d: errors %d and %d", i, j, e, f)
			}
			if i != j && (!noTicket(mac.Make(other), a, want) || !noToken(mac.Make(other), b, want)) {
				t.Errorf("sealed by the key %d, opened by %d: something beside the error", i, j)
			}
		}
	}
}

func TestOpenByANilKey(t *testing.T) {
	k := mac.Make(secret)
	a, b := ticket(7, 9, 3), token(1, 2, 3, 4, 9, 5)
	for _, key := range []*mac.Key{k, nil, mac.Make(nil)} {
		if !noTicket(nil, a.Seal(key), api.ErrTag) || !noToken(nil, b.Seal(key), api.ErrTag) {
			t.Error("a nil key opens something")
		}
	}
	if !noTicket(k, a.Seal(nil), api.ErrTag) || !noToken(k, b.Seal(nil), api.ErrTag) {
		t.Error("a key opens what a nil key sealed")
	}
	if !noTicket(nil, "", api.ErrForm) || !noToken(nil, "", api.ErrForm) || !noTicket(nil, b.Seal(k), api.ErrForm) || !noToken(nil, a.Seal(k), api.ErrForm) {
		t.Error("the form counts ahead of the key")
	}
}

// P6.3

func TestWhatIsSealedIsOpenedAsItWas(t *testing.T) {
	r := rand.New(rand.NewSource(1))
	for i := range 2000 {
		key := make([]byte, r.Intn(100))
		r.Read(key)
		k := mac.Make(key)
		a := ticket(r.Uint32(), int64(r.Uint64()), r.Uint64())
		s := a.Seal(k)
		if got, e := pass.OpenTicket(k, s); e != api.OK || got != a || got.Seal(k) != s {
			t.Fatalf("%d: %v is opened as %v, error %d", i, a, got, e)
		}
		b := token(r.Uint32(), r.Uint32(), uint16(r.Uint32()), uint8(r.Uint32()), int64(r.Uint64()), r.Uint64())
		s = b.Seal(k)
		if got, e := pass.OpenToken(k, s); e != api.OK || got != b || got.Seal(k) != s {
			t.Fatalf("%d: %v is opened as %v, error %d", i, b, got, e)
		}
	}
}

func TestNoTicketIsAToken(t *testing.T) {
	k := mac.Make(secret)
	for _, a := range tickets() {
		if !noToken(k, a.Seal(k), api.ErrForm) {
			t.Errorf("the ticket %v is a token", a)
		}
	}
	for _, a := range tokens() {
		if !noTicket(k, a.Seal(k), api.ErrForm) {
			t.Errorf("the token %v is a ticket", a)
		}
	}
}

func TestTicketsAndTokensCanBeCompared(t *testing.T) {
	a, b := map[pass.Ticket]int{}, map[pass.Token]int{}
	for range 2 {
		for _, x := range tickets() {
			a[x]++
		}
		for _, x := range tokens() {
			b[x]++
		}
	}
	if len(a) != len(tickets()) || len(b) != len(tokens()) {
		t.Errorf("%d of %d tickets, %d of %d tokens", len(a), len(tickets()), len(b), len(tokens()))
	}
}

func TestEachNumberIsSealed(t *testing.T) {
	k := mac.Make(secret)
	seen := map[string]bool{}
	for _, a := range []pass.Ticket{ticket(1, 2, 3), ticket(9, 2, 3), ticket(1, 9, 3), ticket(1, 2, 9)} {
		seen[a.Seal(k)] = true
	}
	for _, a := range []pass.Token{
		token(1, 2, 3, 4, 5, 6), token(9, 2, 3, 4, 5, 6), token(1, 9, 3, 4, 5, 6), token(1, 2, 9, 4, 5, 6),
		token(1, 2, 3, 9, 5, 6), token(1, 2, 3, 4, 9, 6), token(1, 2, 3, 4, 5, 9),
	} {
		seen[a.Seal(k)] = true
	}
	if len(seen) != 11 {
		t.Errorf("%d of 11 are told apart", len(seen))
	}
}

// The rules R4 and R6

func TestNothingIsChangedOrKept(t *testing.T) {
	key := slices.Clone(secret)
	k := mac.Make(key)
	a, b := ticket(7, 9, 3), token(1, 2, 3, 4, 9, 5)
	s, u := a.Seal(k), b.Seal(k)
	text, other := []byte(s), []byte(u)
	for range 3 {
		if !noTicket(k, u, api.ErrForm) || !noToken(k, s, api.ErrForm) || !noTicket(nil, s, api.ErrTag) || a.Seal(nil) == s {
			t.Error("what is wrong is taken")
		}
		x, e := pass.OpenTicket(k, s)
		y, f := pass.OpenToken(k, u)
		if e != api.OK || f != api.OK || x != a || y != b || a.Seal(k) != s || b.Seal(k) != u {
			t.Error("the second time it is otherwise")
		}
		x.Player, y.Seat = 99, 99
	}
	if !bytes.Equal(key, secret) || s != string(text) || u != string(other) {
		t.Error("what is handed in is changed")
	}
	if k.Tag([]byte("x")) != mac.Tag(secret, []byte("x")) {
		t.Error("the key is changed")
	}
}
