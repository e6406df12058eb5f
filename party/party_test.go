package party_test

import (
	"math"
	"math/rand"
	"runtime"
	"slices"
	"testing"

	"tiltyard/api"
	"tiltyard/party"
)

const last = 1<<31 - 1

// ids are some at their edges, wrong are numbers that are none.
var (
	ids   = []uint32{1, 2, 3, 255, 65536, 1 << 30, last - 1, last}
	wrong = []uint32{0, 1 << 31, 1<<31 + 1, 1<<31 + 7, math.MaxUint32 - 1, math.MaxUint32}
)

// step is something that is done: of join and refuse a is the party, of leave there is a alone.
type step struct {
	what string
	a, b uint32
}

// answer is what is answered to a step; what a call does not answer is nothing.
type answer struct {
	id   uint32
	over bool
	e    api.Errno
}

// whats are all that can be done.
var whats = []string{"invite", "join", "refuse", "leave", "kick", "lead"}

// do does a step.
func (s step) do(b *party.Book) answer {
	var r answer
	switch s.what {
	case "invite":
		r.id, r.e = b.Invite(s.a, s.b)
	case "join":
		r.e = b.Join(s.a, s.b)
	case "refuse":
		r.over, r.e = b.Refuse(s.a, s.b)
	case "leave":
		r.id, r.over, r.e = b.Leave(s.a)
	case "kick":
		r.over, r.e = b.Kick(s.a, s.b)
	case "lead":
		r.e = b.Lead(s.a, s.b)
	}
	return r
}

// must fails unless a step answers what is wanted.
func must(t *testing.T, b *party.Book, s step, want answer) {
	t.Helper()
	if got := s.do(b); got != want {
		t.Errorf("%v: %v, not %v", s, got, want)
	}
}

// fails fails unless a step answers an error, and nothing beside it.
func fails(t *testing.T, b *party.Book, s step, e api.Errno) {
	t.Helper()
	must(t, b, s, answer{e: e})
}

// with is a book for so many parties, in which these are, numbered from 1 on: the first of members leads.
func with(most int, parties ...party.Party) *party.Book {
	b := party.New(most)
	for _, p := range parties {
		for _, m := range p.Members[1:] {
			id, _ := b.Invite(p.Members[0], m)
			b.Join(id, m)
		}
		for _, i := range p.Invited {
			b.Invite(p.Members[0], i)
		}
	}
	return b
}

// of is a party of some members, of whom the first leads; nobody is invited.
func of(id uint32, members ...uint32) party.Party {
	return party.Party{Id: id, Leader: members[0], Members: members}
}

// inviting is a party to which some are invited.
func inviting(p party.Party, invited ...uint32) party.Party {
	p.Invited = invited
	return p
}

// led is a party that one of its members leads.
func led(p party.Party, leader uint32) party.Party {
	p.Leader = leader
	return p
}

// same tells whether two parties are the same.
func same(p, q party.Party) bool {
	return p.Id == q.Id && p.Leader == q.Leader && slices.Equal(p.Members, q.Members) && slices.Equal(p.Invited, q.Invited)
}

// holds tells whether a book has just these parties, which rise, whatever is asked of it.
func holds(b *party.Book, parties ...party.Party) bool {
	var there []uint32
	at := map[uint32]uint32{}
	for _, p := range parties {
		there = append(there, p.Id)
		if got, is := b.Party(p.Id); !is || !same(got, p) {
			return false
		}
		for _, m := range p.Members {
			at[m] = p.Id
		}
	}
	for _, p := range parties {
		for _, player := range slices.Concat(p.Members, p.Invited) {
			if b.Of(player) != at[player] {
				return false
			}
		}
	}
	for _, id := range slices.Concat(there, ids, wrong) {
		for _, near := range []uint32{id - 1, id, id + 1} {
			got, is := b.Party(near)
			if !slices.Contains(there, near) && (is || !same(got, party.Party{})) || b.Of(near) != at[near] {
				return false
			}
		}
	}
	return slices.Equal(b.Parties(), there)
}

// has fails unless a book has just these parties.
func has(t *testing.T, b *party.Book, parties ...party.Party) {
	t.Helper()
	if !holds(b, parties...) {
		t.Errorf("%v, not %v", all(b), parties)
	}
}

// all are the parties of a book.
func all(b *party.Book) []party.Party {
	var l []party.Party
	for _, id := range b.Parties() {
		p, _ := b.Party(id)
		l = append(l, p)
	}
	return l
}

// P13.1

func TestNew(t *testing.T) {
	for _, most := range []int{math.MinInt, -1 << 31, -2, -1, 0, 1, 2, 3, 32, 100} {
		b := party.New(most)
		if b == nil || !holds(b) {
			t.Errorf("a book of %d is not empty", most)
		}
		for i := range uint32(max(most, 0)) {
			must(t, b, step{"invite", 1000 + i, 7}, answer{id: i + 1})
		}
		for range 2 {
			fails(t, b, step{"invite", 999, 7}, api.ErrFull)
			if len(b.Parties()) != max(most, 0) {
				t.Errorf("a book of %d has %d parties", most, len(b.Parties()))
			}
		}
	}
}

func TestABookOfManyTakesNoRoomAhead(t *testing.T) {
	before := inUse()
	b := party.New(math.MaxInt)
	must(t, b, step{"invite", 1, 2}, answer{id: 1})
	if more := inUse() - before; more > 1<<20 || !holds(b, inviting(of(1, 1), 2)) {
		t.Errorf("%d bytes of memory", more)
	}
}

func TestTheExample(t *testing.T) {
	b := party.New(8)
	must(t, b, step{"invite", 1, 2}, answer{id: 1})
	must(t, b, step{"join", 1, 2}, answer{})
	must(t, b, step{"leave", 1, 0}, answer{id: 1, over: true})
	has(t, b)
}

func TestInvite(t *testing.T) {
	for _, a := range ids {
		for _, player := range ids {
			if a == player {
				continue
			}
			b := party.New(1)
			must(t, b, step{"invite", a, player}, answer{id: 1})
			has(t, b, inviting(of(1, a), player))
			fails(t, b, step{"invite", a, player}, api.ErrExists)
			has(t, b, inviting(of(1, a), player))
		}
	}
}

func TestInviteOfWhatIsNoId(t *testing.T) {
	for _, b := range []*party.Book{party.New(2), party.New(0), with(1, of(1, 1, 2)), with(1, inviting(of(1, 1, 2), 3, 4))} {
		before := all(b)
		for _, no := range wrong {
			for _, other := range slices.Concat(ids, wrong) {
				fails(t, b, step{"invite", no, other}, api.ErrId)
				fails(t, b, step{"invite", other, no}, api.ErrId)
			}
		}
		for _, a := range ids {
			fails(t, b, step{"invite", a, a}, api.ErrSelf)
		}
		has(t, b, before...)
	}
}

// Only the leader invites, not a member, and not one who is invited: that one makes a party of its own.
func TestInviteByOthers(t *testing.T) {
	b := with(2, inviting(of(1, 5, 4), 6))
	for _, player := range []uint32{1, 5, 6, 7} {
		fails(t, b, step{"invite", 4, player}, api.ErrLeader)
	}
	has(t, b, inviting(of(1, 5, 4), 6))
	must(t, b, step{"invite", 5, 3}, answer{id: 1})
	has(t, b, inviting(of(1, 5, 4), 6, 3))
	must(t, b, step{"invite", 6, 5}, answer{id: 2})
	has(t, b, inviting(of(1, 5, 4), 6, 3), inviting(of(2, 6), 5))
}

func TestInviteOfWhoIsThere(t *testing.T) {
	b := with(2, inviting(of(1, 5, 4), 6))
	for _, player := range []uint32{4, 6} {
		fails(t, b, step{"invite", 5, player}, api.ErrExists)
	}
	has(t, b, inviting(of(1, 5, 4), 6))
}

// How many are in a party counts, be they members or invited.
func TestInviteToTheFull(t *testing.T) {
	for members := 1; members <= 4; members++ {
		p := of(1, 11, 12, 13, 14)
		p.Members, p.Invited = p.Members[:members], []uint32{21, 22, 23}[:4-members]
		b := with(2, p)
		has(t, b, p)
		fails(t, b, step{"invite", 11, 9}, api.ErrSize)
		has(t, b, p)
		// With one less there is room for one more.
		must(t, b, step{"kick", 11, slices.Concat(p.Members, p.Invited)[3]}, answer{})
		must(t, b, step{"invite", 11, 9}, answer{id: 1})
		fails(t, b, step{"invite", 11, 8}, api.ErrSize)
	}
	// Who joins takes no more room than the invitation did.
	b := with(1, inviting(of(1, 1), 2, 3, 4))
	for i, player := range []uint32{3, 2, 4} {
		must(t, b, step{"join", 1, player}, answer{})
		fails(t, b, step{"invite", 1, 9}, api.ErrSize)
		if p, _ := b.Party(1); len(p.Members) != i+2 || len(p.Invited) != 2-i {
			t.Errorf("%v", p)
		}
	}
	has(t, b, of(1, 1, 3, 2, 4))
}

// A full book has no room for a new party; those that it has may still grow.
func TestInviteInTheFull(t *testing.T) {
	b := with(2, of(1, 1, 2), inviting(of(2, 3), 4))
	for _, a := range []uint32{4, 5, last} {
		fails(t, b, step{"invite", a, 1}, api.ErrFull)
		fails(t, b, step{"invite", a, 9}, api.ErrFull)
	}
	must(t, b, step{"invite", 1, 5}, answer{id: 1})
	must(t, b, step{"invite", 3, 5}, answer{id: 2})
	has(t, b, inviting(of(1, 1, 2), 5), inviting(of(2, 3), 4, 5))
	// A party that is over makes room.
	must(t, b, step{"leave", 3, 0}, answer{id: 2, over: true})
	must(t, b, step{"invite", 5, 1}, answer{id: 2})
	has(t, b, inviting(of(1, 1, 2), 5), inviting(of(2, 5), 1))
	none := party.New(0)
	fails(t, none, step{"invite", 1, 2}, api.ErrFull)
	has(t, none)
}

func TestANewPartysId(t *testing.T) {
	b := party.New(5)
	for i := range uint32(5) {
		must(t, b, step{"invite", 10 + i, 1}, answer{id: i + 1})
	}
	for _, gone := range []uint32{3, 1, 4} {
		must(t, b, step{"leave", 9 + gone, 0}, answer{id: gone, over: true})
	}
	for i, id := range []uint32{1, 3, 4} {
		must(t, b, step{"invite", 20 + uint32(i), 1}, answer{id: id})
	}
	has(t, b, inviting(of(1, 20), 1), inviting(of(2, 11), 1), inviting(of(3, 21), 1), inviting(of(4, 22), 1), inviting(of(5, 14), 1))
}

// One may be invited to several parties, and as a member of another one, too.
func TestInvitedToSeveral(t *testing.T) {
	b := with(4, inviting(of(1, 1), 9), inviting(of(2, 2), 9), of(3, 3, 4))
	must(t, b, step{"invite", 2, 4}, answer{id: 2})
	must(t, b, step{"invite", 1, 3}, answer{id: 1})
	want := []party.Party{inviting(of(1, 1), 9, 3), inviting(of(2, 2), 9, 4), of(3, 3, 4)}
	has(t, b, want...)
	must(t, b, step{"join", 2, 9}, answer{})
	// The other invitation stays, and is good again as soon as the party is left.
	has(t, b, inviting(of(1, 1), 9, 3), inviting(of(2, 2, 9), 4), of(3, 3, 4))
	fails(t, b, step{"join", 1, 9}, api.ErrBusy)
	must(t, b, step{"leave", 9, 0}, answer{id: 2})
	must(t, b, step{"join", 1, 9}, answer{})
	has(t, b, inviting(of(1, 1, 9), 3), inviting(of(2, 2), 4), of(3, 3, 4))
}

// Of several errors the first one counts: ErrId, ErrSelf, ErrLeader, ErrExists, ErrSize; or, without a party, ErrFull.
func TestTheFirstErrorOfInviteCounts(t *testing.T) {
	b := with(1, inviting(of(1, 1, 2), 3, 4))
	for _, c := range []struct {
		a, player uint32
		want      api.Errno
	}{
		{0, 0, api.ErrId}, {1 << 31, 1 << 31, api.ErrId}, {2, 0, api.ErrId}, {1, 1 << 31, api.ErrId}, {9, math.MaxUint32, api.ErrId}, {0, 1, api.ErrId},
		{1, 1, api.ErrSelf}, {2, 2, api.ErrSelf}, {3, 3, api.ErrSelf}, {9, 9, api.ErrSelf},
		{2, 1, api.ErrLeader}, {2, 3, api.ErrLeader}, {2, 9, api.ErrLeader},
		{1, 2, api.ErrExists}, {1, 3, api.ErrExists}, {1, 4, api.ErrExists},
		{1, 9, api.ErrSize},
		{3, 1, api.ErrFull}, {9, 1, api.ErrFull}, {9, 3, api.ErrFull}, {9, 8, api.ErrFull},
	} {
		fails(t, b, step{"invite", c.a, c.player}, c.want)
	}
	has(t, b, inviting(of(1, 1, 2), 3, 4))
}

// P13.2

func TestJoin(t *testing.T) {
	for _, a := range ids {
		for _, player := range ids {
			if a == player {
				continue
			}
			b := with(1, inviting(of(1, a), player))
			must(t, b, step{"join", 1, player}, answer{})
			has(t, b, of(1, a, player))
			// Who is a member is not invited any more.
			fails(t, b, step{"join", 1, player}, api.ErrMissing)
			fails(t, b, step{"refuse", 1, player}, api.ErrMissing)
			has(t, b, of(1, a, player))
		}
	}
}

// Members stand in the order in which they came, those who are invited in that in which they were.
func TestTheOrder(t *testing.T) {
	b := with(1, inviting(of(1, 5), 9, 2, 7))
	must(t, b, step{"join", 1, 7}, answer{})
	has(t, b, inviting(of(1, 5, 7), 9, 2))
	must(t, b, step{"join", 1, 2}, answer{})
	has(t, b, inviting(of(1, 5, 7, 2), 9))
	must(t, b, step{"kick", 5, 7}, answer{})
	must(t, b, step{"invite", 5, 1}, answer{id: 1})
	has(t, b, inviting(of(1, 5, 2), 9, 1))
	must(t, b, step{"kick", 5, 9}, answer{})
	must(t, b, step{"invite", 5, 9}, answer{id: 1})
	must(t, b, step{"join", 1, 9}, answer{})
	has(t, b, inviting(of(1, 5, 2, 9), 1))
}

func TestJoinAndRefuseWithoutInvitation(t *testing.T) {
	b := with(3, inviting(of(1, 1, 2), 3), inviting(of(3, 4), 5))
	before := all(b)
	for _, what := range []string{"join", "refuse"} {
		for _, id := range slices.Concat([]uint32{3, 4, last}, wrong) {
			for _, player := range slices.Concat([]uint32{1, 2, 3, 4, 5, 6}, wrong) {
				fails(t, b, step{what, id, player}, api.ErrMissing)
			}
		}
		// Members, the leader, those who are invited elsewhere, and strangers.
		for _, player := range slices.Concat([]uint32{1, 2, 4, 5, 6, last}, wrong) {
			fails(t, b, step{what, 1, player}, api.ErrMissing)
		}
	}
	has(t, b, before...)
}

// Who is a member of a party joins no other one; of several errors the first one counts.
func TestJoinOfTheBusy(t *testing.T) {
	b := with(3, inviting(of(1, 1, 2), 3), inviting(of(2, 4), 1, 2))
	before := all(b)
	for _, player := range []uint32{1, 2} {
		fails(t, b, step{"join", 2, player}, api.ErrBusy)
		fails(t, b, step{"join", 1, player}, api.ErrMissing)
		fails(t, b, step{"join", 3, player}, api.ErrMissing)
	}
	fails(t, b, step{"join", 1, 4}, api.ErrMissing)
	has(t, b, before...)
	// Who leads a party, alone, is a member, too.
	must(t, b, step{"invite", 3, 9}, answer{id: 3})
	fails(t, b, step{"join", 1, 3}, api.ErrBusy)
	must(t, b, step{"leave", 3, 0}, answer{id: 3, over: true})
	must(t, b, step{"join", 1, 3}, answer{})
	has(t, b, of(1, 1, 2, 3), inviting(of(2, 4), 1, 2))
}

func TestRefuse(t *testing.T) {
	for _, player := range ids[1:] {
		b := with(1, inviting(of(1, 1), player))
		must(t, b, step{"refuse", 1, player}, answer{over: true})
		has(t, b)
		fails(t, b, step{"refuse", 1, player}, api.ErrMissing)
	}
	// It is over only if its one member is left, and nobody else is invited.
	b := with(2, inviting(of(1, 1), 2, 3), inviting(of(2, 4, 5), 2))
	must(t, b, step{"refuse", 1, 2}, answer{})
	has(t, b, inviting(of(1, 1), 3), inviting(of(2, 4, 5), 2))
	fails(t, b, step{"refuse", 1, 2}, api.ErrMissing)
	must(t, b, step{"refuse", 2, 2}, answer{})
	has(t, b, inviting(of(1, 1), 3), of(2, 4, 5))
	must(t, b, step{"refuse", 1, 3}, answer{over: true})
	has(t, b, of(2, 4, 5))
	// Who refused may be invited once more; who is a member elsewhere may refuse.
	must(t, b, step{"invite", 4, 2}, answer{id: 2})
	must(t, b, step{"invite", 2, 5}, answer{id: 1})
	must(t, b, step{"refuse", 2, 2}, answer{})
	must(t, b, step{"refuse", 1, 5}, answer{over: true})
	has(t, b, of(2, 4, 5))
}

func TestLeave(t *testing.T) {
	for _, c := range []struct {
		ahead party.Party
		who   uint32
		want  []party.Party
	}{
		{of(1, 5, 3, 9, 1), 5, []party.Party{of(1, 3, 9, 1)}},
		{of(1, 5, 3, 9, 1), 3, []party.Party{of(1, 5, 9, 1)}},
		{of(1, 5, 3, 9, 1), 9, []party.Party{of(1, 5, 3, 1)}},
		{of(1, 5, 3, 9, 1), 1, []party.Party{of(1, 5, 3, 9)}},
		{of(1, 5, 3), 5, nil},
		{of(1, 5, 3), 3, nil},
		{inviting(of(1, 5, 3), 9), 5, []party.Party{inviting(of(1, 3), 9)}},
		{inviting(of(1, 5, 3), 9), 3, []party.Party{inviting(of(1, 5), 9)}},
		{inviting(of(1, 5, 3), 9, 1), 5, []party.Party{inviting(of(1, 3), 9, 1)}},
		{inviting(of(1, 5), 9), 5, nil},
		{inviting(of(1, 5), 9, 3, 1), 5, nil},
	} {
		b := with(1, c.ahead)
		has(t, b, c.ahead)
		must(t, b, step{"leave", c.who, 0}, answer{id: 1, over: len(c.want) == 0})
		has(t, b, c.want...)
		fails(t, b, step{"leave", c.who, 0}, api.ErrMissing)
	}
}

// If the leader is not the first of the members, whoever else leaves, the leader stays so.
func TestLeaveOfWhoDoesNotLead(t *testing.T) {
	for _, who := range []uint32{5, 3, 1} {
		b := with(1, of(1, 5, 3, 9, 1))
		must(t, b, step{"lead", 5, 9}, answer{})
		must(t, b, step{"leave", who, 0}, answer{id: 1})
		left := slices.DeleteFunc([]uint32{5, 3, 9, 1}, func(m uint32) bool { return m == who })
		has(t, b, led(of(1, left...), 9))
		must(t, b, step{"leave", 9, 0}, answer{id: 1})
		has(t, b, of(1, slices.DeleteFunc(left, func(m uint32) bool { return m == 9 })...))
	}
}

func TestLeaveOfWhoIsInNone(t *testing.T) {
	b := with(3, inviting(of(1, 1, 2), 3), inviting(of(2, 4), 5, 3))
	before := all(b)
	for _, player := range slices.Concat([]uint32{3, 5, 6, last}, wrong) {
		fails(t, b, step{"leave", player, 0}, api.ErrMissing)
	}
	has(t, b, before...)
	must(t, b, step{"leave", 2, 0}, answer{id: 1})
	must(t, b, step{"leave", 4, 0}, answer{id: 2, over: true})
	has(t, b, inviting(of(1, 1), 3))
	// To a party that is over nobody is invited, nor to one that has its number then.
	fails(t, b, step{"join", 2, 5}, api.ErrMissing)
	must(t, b, step{"invite", 6, 7}, answer{id: 2})
	fails(t, b, step{"join", 2, 5}, api.ErrMissing)
	has(t, b, inviting(of(1, 1), 3), inviting(of(2, 6), 7))
}

// P13.3

func TestKick(t *testing.T) {
	for _, c := range []struct {
		ahead party.Party
		who   uint32
		want  []party.Party
	}{
		{of(1, 5, 3, 9), 3, []party.Party{of(1, 5, 9)}},
		{of(1, 5, 3, 9), 9, []party.Party{of(1, 5, 3)}},
		{of(1, 5, 3), 3, nil},
		{inviting(of(1, 5, 3), 9), 3, []party.Party{inviting(of(1, 5), 9)}},
		{inviting(of(1, 5, 3), 9), 9, []party.Party{of(1, 5, 3)}},
		{inviting(of(1, 5), 9, 3, 1), 3, []party.Party{inviting(of(1, 5), 9, 1)}},
		{inviting(of(1, 5), 9), 9, nil},
	} {
		b := with(1, c.ahead)
		must(t, b, step{"kick", 5, c.who}, answer{over: len(c.want) == 0})
		has(t, b, c.want...)
		e := api.ErrWrong
		if len(c.want) == 0 {
			e = api.ErrMissing
		}
		fails(t, b, step{"kick", 5, c.who}, e)
		fails(t, b, step{"join", 1, c.who}, api.ErrMissing)
	}
}

func TestLead(t *testing.T) {
	b := with(2, inviting(of(1, 5, 3, 9), 1), of(2, 7, 8))
	// Who leads is told by the leader alone, not by the members' order.
	for _, c := range [][2]uint32{{5, 9}, {9, 3}, {3, 5}, {5, 3}} {
		must(t, b, step{"lead", c[0], c[1]}, answer{})
		has(t, b, led(inviting(of(1, 5, 3, 9), 1), c[1]), of(2, 7, 8))
		fails(t, b, step{"lead", c[0], c[1]}, api.ErrLeader)
		fails(t, b, step{"kick", c[0], c[1]}, api.ErrLeader)
		fails(t, b, step{"invite", c[0], 2}, api.ErrLeader)
	}
	must(t, b, step{"kick", 3, 5}, answer{})
	must(t, b, step{"invite", 3, 5}, answer{id: 1})
	has(t, b, led(inviting(of(1, 3, 9), 1, 5), 3), of(2, 7, 8))
}

// Of several errors the first one counts: ErrMissing, ErrLeader, ErrSelf, ErrWrong.
func TestTheErrorsOfKickAndLead(t *testing.T) {
	b := with(3, inviting(of(1, 1, 2), 3, 7), inviting(of(2, 4, 5), 3))
	before := all(b)
	for _, what := range []string{"kick", "lead"} {
		for _, a := range slices.Concat([]uint32{3, 6, 7, last}, wrong) {
			for _, player := range slices.Concat([]uint32{1, 2, 3, 4, 6, 7, last}, wrong) {
				fails(t, b, step{what, a, player}, api.ErrMissing)
			}
		}
		for _, player := range slices.Concat([]uint32{1, 2, 3, 4, 6, last}, wrong) {
			fails(t, b, step{what, 2, player}, api.ErrLeader)
		}
		for _, a := range []uint32{1, 4} {
			fails(t, b, step{what, a, a}, api.ErrSelf)
		}
		for _, player := range slices.Concat([]uint32{4, 5, 6, last}, wrong) {
			fails(t, b, step{what, 1, player}, api.ErrWrong)
		}
	}
	// Who is invited does not lead.
	for _, player := range []uint32{3, 7} {
		fails(t, b, step{"lead", 1, player}, api.ErrWrong)
	}
	has(t, b, before...)
	// An invitation elsewhere is another leader's.
	fails(t, b, step{"kick", 4, 7}, api.ErrWrong)
	must(t, b, step{"kick", 4, 3}, answer{})
	has(t, b, inviting(of(1, 1, 2), 3, 7), of(2, 4, 5))
}

// P13.4

func TestNilBook(t *testing.T) {
	var b *party.Book
	players := slices.Concat(ids, wrong)
	for _, a := range players {
		for _, player := range players {
			// Whether they are ids or not, and one or not.
			fails(t, b, step{"invite", a, player}, api.ErrFull)
			for _, what := range whats[1:] {
				fails(t, b, step{what, a, player}, api.ErrMissing)
			}
		}
	}
	has(t, b)
}

func TestPartiesRise(t *testing.T) {
	r := rand.New(rand.NewSource(3))
	const many = 500
	b := party.New(many)
	var want []uint32
	for i := range uint32(many) {
		must(t, b, step{"invite", 1000 + i, 1}, answer{id: i + 1})
		want = append(want, i+1)
	}
	for _, gone := range r.Perm(many)[:many/2] {
		must(t, b, step{"leave", 1000 + uint32(gone), 0}, answer{id: uint32(gone) + 1, over: true})
		want = slices.DeleteFunc(want, func(id uint32) bool { return id == uint32(gone)+1 })
	}
	if got := b.Parties(); !slices.Equal(got, want) {
		t.Errorf("%v", got)
	}
	for _, id := range want {
		if p, is := b.Party(id); !is || !same(p, inviting(of(id, 999+id), 1)) || b.Of(999+id) != id {
			t.Errorf("%d: %v", id, p)
		}
	}
}

// P13.5

// model is what the chapter says of a book, by a list of parties alone.
type model struct {
	most    int
	parties []*party.Party
}

// drop takes a player out of a list, and tells whether it was there.
func drop(l *[]uint32, player uint32) bool {
	place := slices.Index(*l, player)
	if place < 0 {
		return false
	}
	*l = slices.Concat((*l)[:place], (*l)[place+1:])
	return true
}

func (m *model) at(id uint32) *party.Party {
	for _, p := range m.parties {
		if p.Id == id {
			return p
		}
	}
	return nil
}

func (m *model) of(player uint32) *party.Party {
	for _, p := range m.parties {
		if slices.Contains(p.Members, player) {
			return p
		}
	}
	return nil
}

// settle lets a party be over if it is, and lets somebody lead it otherwise.
func (m *model) settle(p *party.Party) bool {
	if len(p.Members) == 0 || len(p.Members) == 1 && len(p.Invited) == 0 {
		m.parties = slices.DeleteFunc(m.parties, func(q *party.Party) bool { return p == q })
		return true
	}
	if !slices.Contains(p.Members, p.Leader) {
		p.Leader = p.Members[0]
	}
	return false
}

func (m *model) invite(a, player uint32) answer {
	p := m.of(a)
	switch {
	case a < 1 || a > last || player < 1 || player > last:
		return answer{e: api.ErrId}
	case a == player:
		return answer{e: api.ErrSelf}
	case p == nil && len(m.parties) >= m.most:
		return answer{e: api.ErrFull}
	case p == nil:
		p = &party.Party{Id: 1, Leader: a, Members: []uint32{a}}
		for m.at(p.Id) != nil {
			p.Id++
		}
		m.parties = append(m.parties, p)
	case p.Leader != a:
		return answer{e: api.ErrLeader}
	case slices.Contains(p.Members, player) || slices.Contains(p.Invited, player):
		return answer{e: api.ErrExists}
	case len(p.Members)+len(p.Invited) >= 4:
		return answer{e: api.ErrSize}
	}
	p.Invited = append(p.Invited, player)
	return answer{id: p.Id}
}

// enter does a join, or a refuse.
func (m *model) enter(s step) answer {
	p := m.at(s.a)
	switch {
	case p == nil || !slices.Contains(p.Invited, s.b):
		return answer{e: api.ErrMissing}
	case s.what == "refuse":
		drop(&p.Invited, s.b)
		return answer{over: m.settle(p)}
	case m.of(s.b) != nil:
		return answer{e: api.ErrBusy}
	}
	drop(&p.Invited, s.b)
	p.Members = append(p.Members, s.b)
	return answer{}
}

// rule does a kick, or a lead.
func (m *model) rule(s step) answer {
	p := m.of(s.a)
	switch {
	case p == nil:
		return answer{e: api.ErrMissing}
	case p.Leader != s.a:
		return answer{e: api.ErrLeader}
	case s.a == s.b:
		return answer{e: api.ErrSelf}
	case s.what == "kick" && (drop(&p.Members, s.b) || drop(&p.Invited, s.b)):
		return answer{over: m.settle(p)}
	case s.what == "lead" && slices.Contains(p.Members, s.b):
		p.Leader = s.b
		return answer{}
	}
	return answer{e: api.ErrWrong}
}

// do does a step in the model, and is what shall be answered.
func (m *model) do(s step) answer {
	switch s.what {
	case "invite":
		return m.invite(s.a, s.b)
	case "join", "refuse":
		return m.enter(s)
	case "kick", "lead":
		return m.rule(s)
	}
	p := m.of(s.a)
	if p == nil {
		return answer{e: api.ErrMissing}
	}
	drop(&p.Members, s.a)
	return answer{id: p.Id, over: m.settle(p)}
}

// try does a step in both, and fails unless both answer the same, and are the same.
func (m *model) try(t *testing.T, b *party.Book, s step) {
	t.Helper()
	got, want := s.do(b), m.do(s)
	var parties []party.Party
	for _, p := range m.parties {
		parties = append(parties, *p)
	}
	slices.SortFunc(parties, func(p, q party.Party) int { return int(p.Id) - int(q.Id) })
	if got != want || !holds(b, parties...) {
		t.Fatalf("%v: %v, not %v; %v, not %v", s, got, want, all(b), parties)
	}
}

// steps are all that some players can do to one another, and to themselves, and to the parties of their numbers.
func steps(players ...uint32) []step {
	var l []step
	for _, what := range whats {
		for _, a := range players {
			if what == "leave" {
				l = append(l, step{what, a, 0})
				continue
			}
			for _, b := range players {
				l = append(l, step{what, a, b})
			}
		}
	}
	return l
}

// Whatever three do behind an invitation, up to three things, one behind the other.
func TestAllThatThreeDo(t *testing.T) {
	some := slices.DeleteFunc(steps(1, 2, 3), func(s step) bool { return s.a == s.b || s.a == 3 && (s.what == "join" || s.what == "refuse") })
	ways := len(some) * len(some) * len(some)
	for way := range ways {
		m, b := &model{most: 2}, party.New(2)
		m.try(t, b, step{"invite", 1, 2})
		for range 3 {
			m.try(t, b, some[way%len(some)])
			way /= len(some)
		}
	}
}

// sound fails unless each member is one of one party, which has its leader among its members, and no party is alone, or too great.
func sound(t *testing.T, b *party.Book) {
	t.Helper()
	at := map[uint32]uint32{}
	for _, p := range all(b) {
		both := slices.Concat(p.Members, p.Invited)
		if len(both) < 2 || len(both) > 4 || !slices.Contains(p.Members, p.Leader) {
			t.Fatalf("%v", p)
		}
		slices.Sort(both)
		if len(slices.Compact(both)) != len(p.Members)+len(p.Invited) {
			t.Fatalf("%v", p)
		}
		for _, m := range p.Members {
			if at[m] != 0 || b.Of(m) != p.Id {
				t.Fatalf("%d is in %d and in %d", m, p.Id, max(at[m], b.Of(m)))
			}
			at[m] = p.Id
		}
	}
}

func TestAsTheModelIs(t *testing.T) {
	for _, c := range []struct{ most, many int }{{0, 3}, {1, 4}, {2, 6}, {3, 20}, {8, 12}, {8, 30}} {
		r := rand.New(rand.NewSource(int64(c.most*100 + c.many)))
		m, b := &model{most: c.most}, party.New(c.most)
		great, crowded := 0, 0
		for range 6000 {
			s := step{whats[[]int{0, 0, 0, 0, 1, 1, 1, 1, 1, 2, 3, 4, 5}[r.Intn(13)]], uint32(r.Intn(c.many) + 1), uint32(r.Intn(c.many) + 1)}
			if s.what == "join" || s.what == "refuse" {
				s.a = uint32(r.Intn(c.most+2) + 1)
				// What has a chance to be done is tried more often.
				if p := m.at(s.a); p != nil && len(p.Invited) > 0 && r.Intn(3) > 0 {
					s.b = p.Invited[r.Intn(len(p.Invited))]
				}
			} else if len(m.parties) > 0 && r.Intn(3) == 0 {
				s.a = m.parties[r.Intn(len(m.parties))].Leader
			}
			if r.Intn(40) == 0 {
				s.b = wrong[r.Intn(len(wrong))]
			}
			m.try(t, b, s)
			sound(t, b)
			crowded = max(crowded, len(m.parties))
			for _, p := range m.parties {
				great = max(great, len(p.Members))
			}
		}
		if c.most > 0 && (great != 4 || crowded != c.most) {
			t.Errorf("of %d there were %d parties at most, with %d members", c.most, crowded, great)
		}
	}
}

// What is refused changes nothing.
func TestAnErrorChangesNothing(t *testing.T) {
	full := func() *party.Book {
		return with(3, inviting(of(1, 1, 2), 3, 4), inviting(of(2, 5), 2, 1), of(3, 7, 8, 9, 6))
	}
	b := full()
	before := all(b)
	has(t, b, before...)
	refused := 0
	for _, s := range steps(slices.Concat([]uint32{1, 2, 3, 4, 5, 6, 7, 8, 10}, wrong)...) {
		r := s.do(b)
		if r.e == api.OK {
			// What is not refused is for other tests, and undone here.
			b = full()
			continue
		}
		refused++
		if r != (answer{e: r.e}) || !holds(b, before...) {
			t.Fatalf("%v: %v, %v", s, r, all(b))
		}
	}
	if refused < 900 {
		t.Errorf("%d steps are refused", refused)
	}
}

// The book's ways: the calls of the rack that is embedded in it are its own.

func TestTheRacksCallsAreTheBooks(t *testing.T) {
	b := with(4, of(1, 1, 2), inviting(of(2, 3), 4), of(3, 5, 6))
	b.Leave(3)
	next, is := b.Next(1)
	if b.Len() != 2 || b.Most() != 4 || b.Free() != 2 || next != 3 || !is || !slices.Equal(b.Ids(), b.Parties()) {
		t.Errorf("%d of %d, free %d, behind 1 stands %d", b.Len(), b.Most(), b.Free(), next)
	}
	// What is dropped so is there no more, whoever was a member.
	if _, was := b.Drop(1); !was {
		t.Error("1 was not there")
	}
	has(t, b, of(3, 5, 6))
}

// What the rack hands out stays as it was, whatever becomes of the party.
func TestWhatTheRackHandsOutStays(t *testing.T) {
	b := with(2, inviting(of(1, 1, 2), 3, 4))
	kept, _ := b.Get(1)
	for _, s := range []step{{"kick", 1, 3}, {"invite", 1, 9}, {"kick", 1, 2}, {"join", 1, 9}, {"lead", 1, 9}, {"leave", 1, 0}} {
		s.do(b)
	}
	has(t, b, inviting(of(1, 9), 4))
	b.Put(1, kept)
	has(t, b, inviting(of(1, 1, 2), 3, 4))
	// Nor does what comes behind the one show in the other one.
	b.Refuse(1, 4)
	kept, _ = b.Get(1)
	b.Invite(1, 9)
	more, _ := b.Get(1)
	b.Put(1, kept)
	b.Invite(1, 8)
	has(t, b, inviting(of(1, 1, 2), 3, 8))
	b.Put(1, more)
	has(t, b, inviting(of(1, 1, 2), 3, 9))
}

// The rules R4 and R6, and what is kept

// blot writes into a list, and as far behind it as its memory goes.
func blot(l []uint32) {
	l = l[:cap(l)]
	for i := range l {
		l[i] = 99
	}
}

func TestAnswersAreTheirOwn(t *testing.T) {
	want := []party.Party{inviting(of(1, 5, 3), 9, 1), of(2, 7, 8)}
	b := with(4, want...)
	p, _ := b.Party(1)
	q, _ := b.Party(1)
	l, k := b.Parties(), b.Parties()
	for _, list := range [][]uint32{p.Members, p.Invited, l, append(p.Members, 99), append(p.Invited, 99), append(l, 99)} {
		blot(list)
	}
	if !same(q, want[0]) || !slices.Equal(k, []uint32{1, 2}) {
		t.Errorf("%v, %v", q, k)
	}
	has(t, b, want...)
	for _, s := range []step{{"kick", 5, 9}, {"join", 1, 1}, {"leave", 7, 0}, {"lead", 5, 3}, {"invite", 3, 2}} {
		s.do(b)
	}
	if !same(q, want[0]) || !slices.Equal(k, []uint32{1, 2}) {
		t.Errorf("an answer changes: %v, %v", q, k)
	}
	has(t, b, led(inviting(of(1, 5, 3, 1), 2), 3))
}

// The lists of one answer share nothing, either: what is laid behind the one does not show in another one.
func TestListsOfAnAnswerShareNothing(t *testing.T) {
	b := with(1, inviting(of(1, 5, 3), 9, 1))
	p, _ := b.Party(1)
	_, _ = append(p.Members, 99, 99, 99), append(p.Invited, 99, 99, 99)
	if !same(p, inviting(of(1, 5, 3), 9, 1)) {
		t.Errorf("%v", p)
	}
	blot(p.Members)
	if !slices.Equal(p.Invited, []uint32{9, 1}) {
		t.Errorf("%v", p)
	}
}

func TestBooksShareNothing(t *testing.T) {
	a, b := party.New(2), party.New(2)
	a.Invite(1, 2)
	has(t, b)
	must(t, b, step{"invite", 2, 1}, answer{id: 1})
	must(t, a, step{"join", 1, 2}, answer{})
	has(t, a, of(1, 1, 2))
	has(t, b, inviting(of(1, 2), 1))
	a.Leave(1)
	has(t, a)
	has(t, b, inviting(of(1, 2), 1))
}

func TestToAskChangesNothing(t *testing.T) {
	want := []party.Party{inviting(of(1, 5, 3), 9, 1), of(2, 7, 8)}
	b := with(4, want...)
	for range 5 {
		has(t, b, want...)
	}
}

// inUse is how much memory is in use.
func inUse() int64 {
	runtime.GC()
	var m runtime.MemStats
	runtime.ReadMemStats(&m)
	return int64(m.HeapAlloc)
}

func TestWhatIsOverIsNotKept(t *testing.T) {
	b := with(2, of(1, last-1, last-2))
	before := inUse()
	for i := uint32(1); i < 100000; i++ {
		b.Invite(i, i+1)
		switch i % 4 {
		case 0:
			b.Refuse(2, i+1)
		case 1:
			b.Kick(i, i+1)
		case 2:
			b.Leave(i)
		case 3:
			b.Join(2, i+1)
			b.Leave(i)
		}
		if len(b.Parties()) != 1 {
			t.Fatalf("%d: %v", i, all(b))
		}
		b.Invite(last-1, i)
		b.Join(1, i)
		b.Leave(i)
	}
	if more := inUse() - before; more > 1<<18 {
		t.Errorf("%d bytes of memory", more)
	}
	has(t, b, of(1, last-1, last-2))
}
