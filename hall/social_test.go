package hall_test

import (
	"strconv"
	"testing"

	"tiltyard/api"
	"tiltyard/plan"
)

// P24.2: friends

func TestFriendAsk(t *testing.T) {
	p := usual(t, modes(duel), 1, 2, 3)
	p.same("1 friend-ask 9 -> 1 error 3 12", "1 friend-ask 0 -> 1 error 3 12", "1 friend-ask 4294967295 -> 1 error 3 12", "1 friend-ask 1 -> 1 error 3 16")
	p.same("1 friend-ask 2 -> 1 ok 3; 2 friend-asked 1", "1 friend-ask 2 -> 1 error 3 11")
	p.same("1 friends -> 1 friend-list [] [2] []", "2 friends -> 2 friend-list [] [] [1]", "3 friends -> 3 friend-list [] [] []")
	// An ask that meets another one makes friends.
	p.see("2 friend-ask 1 -> 2 ok 3; 2 friend-now 1 1; 1 friend-now 2 1")
	p.same("1 friends -> 1 friend-list [2] [] []", "2 friends -> 2 friend-list [1] [] []", "1 friend-ask 2 -> 1 error 3 11")
	// Who blocks, and who is blocked, may not.
	p.quietly("1 block 3")
	p.same("1 friend-ask 3 -> 1 error 3 17", "3 friend-ask 1 -> 3 error 3 17")
	// Who is not logged in is told nothing.
	p.quietly("close 3")
	p.see("2 friend-ask 3 -> 2 ok 3")
	p.enter(3)
	p.see("3 friend-ask 2 -> 3 ok 3; 3 friend-now 2 1; 2 friend-now 3 1", "3 logout -> 3 ok 25; 2 presence 3 0")
}

// Of friends that they are now one is told what is seen.
func TestFriendNow(t *testing.T) {
	for _, how := range []string{"2 friend-ask 1 -> 2 ok 3; ", "2 friend-accept 1 -> 2 ok 4; "} {
		p := usual(t, modes(duel), 1, 2, 3)
		p.quietly("host 1 hello", "2 queue 0", "3 queue 0", "tick 1", "1 friend-ask 2")
		p.see(how + "2 friend-now 1 1; 1 friend-now 2 2")

		p = usual(t, modes(duel), 1, 2, 3)
		p.quietly("host 1 hello", "2 queue 0", "3 queue 0", "tick 1", "2 accept", "3 accept", "1 friend-ask 2")
		p.see(how + "2 friend-now 1 1; 1 friend-now 2 5")

		p = usual(t, modes(duel), 1, 2, 3)
		p.quietly("1 friend-ask 2", "close 1")
		p.see(how + "2 friend-now 1 0")
	}
}

func TestFriendLinksAreFull(t *testing.T) {
	c := plan.Usual(duel)
	c.Conns, c.Players = 64, 64
	p := with(t, c)
	for player := range uint32(18) {
		p.enter(player + 1)
	}
	for player := uint32(2); player <= 17; player++ {
		p.quietly(line(1, "friend-ask", player))
	}
	p.same("1 friend-ask 18 -> 1 error 3 10", "18 friend-ask 1 -> 18 error 3 10")
	p.see("2 friend-accept 1 -> 2 ok 4; 2 friend-now 1 1; 1 friend-now 2 1")
	p.same("1 friend-ask 18 -> 1 error 3 10")
	p.see("3 friend-refuse 1 -> 3 ok 5", "1 friend-ask 18 -> 1 ok 3; 18 friend-asked 1")
	p.same("1 friends -> 1 friend-list [2] [4 5 6 7 8 9 10 11 12 13 14 15 16 17 18] []")
}

func TestFriendAcceptRefuseRemove(t *testing.T) {
	p := usual(t, modes(duel), 1, 2, 3)
	p.same("2 friend-accept 1 -> 2 error 4 12", "2 friend-refuse 1 -> 2 error 5 12", "2 friend-remove 1 -> 2 error 6 12",
		"2 friend-accept 0 -> 2 error 4 12", "2 friend-refuse 9 -> 2 error 5 12", "2 friend-remove 2 -> 2 error 6 12")
	p.quietly("1 friend-ask 2")
	p.same("1 friend-accept 2 -> 1 error 4 12", "1 friend-refuse 2 -> 1 error 5 12", "1 friend-remove 2 -> 1 error 6 12")
	p.see("2 friend-refuse 1 -> 2 ok 5")
	p.same("2 friend-accept 1 -> 2 error 4 12", "1 friends -> 1 friend-list [] [] []")
	p.quietly("1 friend-ask 2")
	p.see("2 friend-accept 1 -> 2 ok 4; 2 friend-now 1 1; 1 friend-now 2 1")
	p.same("2 friend-accept 1 -> 2 error 4 12", "2 friend-refuse 1 -> 2 error 5 12")
	p.see("1 friend-remove 2 -> 1 ok 6; 2 friend-gone 1")
	p.same("1 friend-remove 2 -> 1 error 6 12", "2 friends -> 2 friend-list [] [] []")
	p.befriend(1, 2)
	p.quietly("close 1")
	p.see("2 friend-remove 1 -> 2 ok 6")
	p.enter(1)
	p.same("1 friends -> 1 friend-list [] [] []")
}

func TestBlock(t *testing.T) {
	p := usual(t, modes(duel), 1, 2, 3)
	p.same("1 block 9 -> 1 error 7 12", "1 block 0 -> 1 error 7 12", "1 block 1 -> 1 error 7 16", "1 unblock 2 -> 1 error 8 12", "1 unblock 9 -> 1 error 8 12")
	// Whoever was no friend is not told.
	p.see("1 block 2 -> 1 ok 7")
	p.same("1 block 2 -> 1 error 7 11", "2 unblock 1 -> 2 error 8 12")
	p.see("2 block 1 -> 2 ok 7", "1 unblock 2 -> 1 ok 8")
	p.same("1 friend-ask 2 -> 1 error 3 17", "1 invite 2 -> 1 error 10 17")
	p.see("2 unblock 1 -> 2 ok 8")
	// An ask ends without a word, a friendship with one.
	p.quietly("3 friend-ask 1")
	p.see("1 block 3 -> 1 ok 7")
	p.same("3 friends -> 3 friend-list [] [] []", "1 friends -> 1 friend-list [] [] []")
	p.befriend(1, 2)
	p.see("1 block 2 -> 1 ok 7; 2 friend-gone 1")
	p.same("2 friends -> 2 friend-list [] [] []")
	// And they are told no more of one another.
	p.see("1 queue 0 -> 1 ok 17; 1 queued 0", "2 logout -> 2 ok 25")
}

func TestBlocksAreFull(t *testing.T) {
	c := plan.Usual(duel)
	c.Conns, c.Players = 64, 64
	p := with(t, c)
	for player := range uint32(18) {
		p.enter(player + 1)
	}
	for player := uint32(2); player <= 17; player++ {
		p.see(line(1, "block", player) + " -> 1 ok 7")
	}
	p.same("1 block 18 -> 1 error 7 10")
	p.see("1 unblock 2 -> 1 ok 8", "1 block 18 -> 1 ok 7")
}

// Of each change of what is seen of a player the friends are told who are logged in, at the end of a call; of a change from one status
// to another of which the same is seen nobody is.
func TestPresence(t *testing.T) {
	p := usual(t, modes(duel), 1, 2, 3, 4)
	p.befriend(1, 2)
	p.befriend(3, 1)
	p.befriend(4, 3)
	p.see("1 queue 0 -> 1 ok 17; 1 queued 0; 2 presence 1 2; 3 presence 1 2", "4 queue 0 -> 4 ok 17; 4 queued 0; 3 presence 4 2")
	p.quietly("close 2", "host 1 hello")
	p.see("tick 1 -> 1 check 1 11; 4 check 1 11")
	p.enter(2)
	p.see("1 accept -> 1 ok 19", "4 accept -> 4 ok 19; 1 check-over 1 0; 4 check-over 1 0; host 1 start 1 0 [1] [4]; 2 presence 1 5; 3 presence 1 5; 3 presence 4 5")
	p.quietly("host 1 up")
	p.see("host 1 come 1 -> host 1 joined 1 1; 1 live 1", "host 1 left 1 -> 2 presence 1 0; 3 presence 1 0")
	// Away looks like offline, so that to close changes nothing.
	p.see("close 1 -> ", "host 1 result 1 0 -> 4 over 1 0 1500; 3 presence 4 1")
	p.see("3 logout -> 3 ok 25; 4 presence 3 0")
	p.enter(1)
	p.see("2 logout -> 2 ok 25; 1 presence 2 0")
}

// P24.2: parties

func TestInvite(t *testing.T) {
	p := usual(t, modes(duel), 1, 2, 3, 4, 5, 6)
	p.same("1 invite 9 -> 1 error 10 12", "1 invite 0 -> 1 error 10 12", "1 invite 1 -> 1 error 10 16")
	p.quietly("1 block 2")
	p.same("1 invite 2 -> 1 error 10 17", "2 invite 1 -> 2 error 10 17")
	p.quietly("1 unblock 2")
	p.see("1 invite 2 -> 1 ok 10; 2 invited 1 1")
	p.same("1 invite 2 -> 1 error 10 11", "1 party -> 1 party-is 1 1 [1]", "2 party -> 2 party-is 0 0 []")
	p.quietly("2 join 1")
	p.same("2 invite 3 -> 2 error 10 18", "1 invite 2 -> 1 error 10 11")
	p.quietly("close 3")
	p.see("1 invite 3 -> 1 ok 10", "1 invite 4 -> 1 ok 10; 4 invited 1 1")
	p.same("1 invite 5 -> 1 error 10 21")
	p.see("5 invite 4 -> 5 ok 10; 4 invited 2 5")
	// A block counts ahead of all that the party says.
	p.quietly("6 block 2")
	p.same("2 invite 6 -> 2 error 10 17")
}

func TestPartiesAreFull(t *testing.T) {
	c := plan.Usual(duel)
	c.Parties = 1
	p := with(t, c)
	p.enter(1, 2, 3)
	p.quietly("1 invite 2")
	p.same("3 invite 2 -> 3 error 10 10")
}

func TestJoin(t *testing.T) {
	p := usual(t, modes(duel), 1, 2, 3, 4)
	p.same("1 join 1 -> 1 error 11 12", "1 join 0 -> 1 error 11 12", "1 join 4294967295 -> 1 error 11 12")
	p.quietly("1 invite 2", "1 invite 3", "4 invite 2")
	p.same("4 join 1 -> 4 error 11 12")
	p.see("2 join 1 -> 2 ok 11; 1 party-now 1 1 [1 2]; 2 party-now 1 1 [1 2]")
	p.same("2 join 1 -> 2 error 11 12", "2 join 2 -> 2 error 11 19")
	p.quietly("close 1")
	p.see("3 join 1 -> 3 ok 11; 2 party-now 1 1 [1 2 3]; 3 party-now 1 1 [1 2 3]")
	p.same("3 party -> 3 party-is 1 1 [1 2 3]", "4 party -> 4 party-is 2 4 [4]")
}

func TestRefuse(t *testing.T) {
	p := usual(t, modes(duel), 1, 2, 3)
	p.same("1 refuse 1 -> 1 error 12 12", "1 refuse 0 -> 1 error 12 12")
	p.quietly("1 invite 2", "1 invite 3")
	p.same("1 refuse 1 -> 1 error 12 12")
	p.see("2 refuse 1 -> 2 ok 12")
	p.same("2 refuse 1 -> 2 error 12 12", "1 party -> 1 party-is 1 1 [1]")
	p.see("3 refuse 1 -> 3 ok 12; 1 party-over 1")
	p.same("1 party -> 1 party-is 0 0 []")
	p.quietly("1 invite 2", "close 1")
	p.see("2 refuse 1 -> 2 ok 12")
}

func TestLeave(t *testing.T) {
	p := usual(t, modes(duel), 1, 2, 3, 4)
	p.same("1 leave -> 1 error 13 12")
	p.party(1, 2, 3)
	p.quietly("1 invite 4")
	p.see("1 leave -> 1 ok 13; 2 party-now 1 2 [2 3]; 3 party-now 1 2 [2 3]", "3 leave -> 3 ok 13; 2 party-now 1 2 [2]")
	p.see("4 join 1 -> 4 ok 11; 2 party-now 1 2 [2 4]; 4 party-now 1 2 [2 4]", "2 leave -> 2 ok 13; 4 party-over 1")
	p.same("4 leave -> 4 error 13 12")
	// Nobody is left of a party that was its leader alone.
	p.quietly("1 invite 2")
	p.see("1 leave -> 1 ok 13", "2 join 1 -> 2 error 11 12")
}

func TestKick(t *testing.T) {
	p := usual(t, modes(duel), 1, 2, 3, 4, 5)
	p.same("1 kick 2 -> 1 error 14 12")
	p.party(1, 2, 3)
	p.quietly("1 invite 4")
	p.same("2 kick 3 -> 2 error 14 18", "1 kick 1 -> 1 error 14 16", "1 kick 5 -> 1 error 14 13", "1 kick 0 -> 1 error 14 13")
	p.see("1 kick 3 -> 1 ok 14; 3 party-over 1; 1 party-now 1 1 [1 2]; 2 party-now 1 1 [1 2]")
	// Who was only invited is not told, nor is anybody else.
	p.see("1 kick 4 -> 1 ok 14", "4 join 1 -> 4 error 11 12")
	p.see("1 kick 2 -> 1 ok 14; 2 party-over 1; 1 party-over 1")
	// If that was the last one the leader is told.
	p.quietly("1 invite 4")
	p.see("1 kick 4 -> 1 ok 14; 1 party-over 1")
	// A member is kicked, one who is invited stays.
	p.party(1, 2)
	p.quietly("1 invite 4", "close 2")
	p.see("1 kick 2 -> 1 ok 14; 1 party-now 1 1 [1]")
}

func TestLead(t *testing.T) {
	p := usual(t, modes(duel), 1, 2, 3, 4)
	p.same("1 lead 2 -> 1 error 15 12")
	p.party(1, 2, 3)
	p.quietly("1 invite 4")
	p.same("2 lead 3 -> 2 error 15 18", "1 lead 1 -> 1 error 15 16", "1 lead 4 -> 1 error 15 13", "1 lead 9 -> 1 error 15 13")
	p.see("1 lead 3 -> 1 ok 15; 1 party-now 1 3 [1 2 3]; 2 party-now 1 3 [1 2 3]; 3 party-now 1 3 [1 2 3]")
	p.same("1 lead 2 -> 1 error 15 18", "2 party -> 2 party-is 1 3 [1 2 3]")
}

// P10: friendships among others change nothing that a player is sent.
func TestStrangersAreNotSeen(t *testing.T) {
	lines := []string{"host 1 hello", "4 queue 0", "3 queue 0", "tick 1", "3 accept", "4 accept", "host 1 up", "host 1 come 3", "tick 9", "host 1 left 3",
		"4 status 3", "4 status 1", "4 friends", "4 friend-ask 5", "close 3", "tick 20", "5 friend-accept 4", "close 5"}
	to4 := func(befriend bool) string {
		p := usual(t, modes(duel), 1, 2, 3, 4, 5)
		if befriend {
			p.befriend(1, 3)
			p.befriend(2, 3)
			p.befriend(3, 5)
			p.befriend(5, 1)
		}
		all := ""
		for _, l := range lines {
			for _, part := range parts(p.do(l)) {
				if part[:2] == "4 " {
					all += part + "\n"
				}
			}
		}
		return all
	}
	if with, without := to4(true), to4(false); with != without || with == "" {
		t.Errorf("with friendships:\n%swithout:\n%s", with, without)
	}
}

// The friends' list tells each list rising, whoever came first.
func TestFriendListRises(t *testing.T) {
	p := usual(t, modes(duel), 1, 2, 3, 4, 5, 6, 7)
	p.befriend(7, 4)
	p.befriend(4, 2)
	p.quietly("4 friend-ask 6", "4 friend-ask 1", "5 friend-ask 4", "3 friend-ask 4")
	p.same("4 friends -> 4 friend-list [2 7] [1 6] [3 5]")
	for _, id := range []uint32{2, 7} {
		p.see("4 status " + strconv.Itoa(int(id)) + " -> 4 status-is " + strconv.Itoa(int(id)) + " " + strconv.Itoa(api.Idle))
	}
}
