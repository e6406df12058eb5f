package desk_test

import (
	"fmt"
	"slices"
	"strconv"
	"strings"
	"testing"

	"tiltyard/elo"
)

// P28.1: in the mode 0 and in 1 the window is 100 at first, and 10 more for each tick, but at most 1000.
func TestWindows(t *testing.T) {
	for _, x := range []struct {
		apart int
		reach func(p *play)
	}{
		{100, func(p *play) { p.duels(2, 3, 4, 2, 5, 6, 7) }},
		{101, func(p *play) { p.duels(2, 3, 4, 5, 6, 7, 2) }},
		{1000, func(p *play) { p.drift(1000) }},
		{1001, func(p *play) { p.drift(1001) }},
	} {
		for mode, players := range [][]int{{1, 8}, {1, 8, 9, 10}} {
			p := fresh(t)
			x.reach(p)
			if apart := p.rating(1) - p.rating(8); apart != x.apart {
				t.Fatalf("they are %d apart, not %d", apart, x.apart)
			}
			for _, n := range players {
				p.see(fmt.Sprintf("ask %d queue %d -> to %d ok 17; to %d queued %d", n, mode, n, n, mode))
			}
			waits, found := 0, p.beats(0)
			for ; !found && waits < 150; waits++ {
				found = p.beats(1)
			}
			if found != (x.apart <= 1000) || found && waits != (x.apart-100+9)/10 {
				t.Errorf("mode %d, %d apart: found is %v, behind %d", mode, x.apart, found, waits)
			}
		}
	}
}

// duels lets 1, of ten players, win against others, one after the other.
func (p *play) duels(others ...int) {
	p.Helper()
	p.enter(1, 2, 3, 4, 5, 6, 7, 8, 9, 10)
	for match, other := range others {
		p.wins(match+1, 0, 1, other)
	}
}

// drift lets 1 win, and 8 lose, in teams with 9 and 10, till their ratings are just so far apart.
func (p *play) drift(apart int) {
	p.Helper()
	p.enter(1, 8, 9, 10)
	for match := 1; p.rating(1)-p.rating(8) < apart; match++ {
		// Each of the others is on the side of 1 every other time, and stays in the middle so.
		var one, two []int
		// Who leads wins, and loses, a point more, if they can't be shared alike. At last it is by 4 each time, so it must come to that.
		most := 0
		for order := range 4 {
			x, y := []int{1, 9 + match%2}, []int{8, 10 - match%2}
			if order%2 == 1 {
				slices.Reverse(x)
			}
			if order/2 == 1 {
				slices.Reverse(y)
			}
			a := p.behind(x, y)
			if by4, was4 := (apart-a)%4 == 0, most > 0 && (apart-most)%4 == 0; a <= apart && (by4 && !was4 || by4 == was4 && a > most) {
				most, one, two = a, x, y
			}
		}
		if most == 0 {
			p.Fatalf("%d apart can't be reached", apart)
		}
		said := p.joins(one) + p.joins(two)
		p.wins(match, 1, one[0], two[0], one[1], two[1])
		said += p.do(fmt.Sprintf("ask %d leave", one[0])) + p.do(fmt.Sprintf("ask %d leave", two[0]))
		if strings.Contains(said, "error") {
			p.Fatal(said)
		}
	}
}

// behind is how far 1 and 8 are apart, if one team wins against the other one.
func (p *play) behind(one, two []int) int {
	p.Helper()
	x, y, _ := elo.Update([]int{p.rating(one[0]), p.rating(one[1])}, []int{p.rating(two[0]), p.rating(two[1])}, 1)
	return x[slices.Index(one, 1)] - y[slices.Index(two, 8)]
}

// joins lets players be a new party, which the first one leads.
func (p *play) joins(players []int) string {
	var party int
	said := p.do(fmt.Sprintf("ask %d invite %d", players[0], players[1]))
	if _, at, is := strings.Cut(said, "invited "); is {
		fmt.Sscan(at, &party)
	}
	return said + p.do(fmt.Sprintf("ask %d join %d", players[1], party))
}

// wins lets players have a match. The first two put their tickets into the queue, and the first one's team wins.
func (p *play) wins(match, mode, first, second int, more ...int) {
	p.Helper()
	said := p.do("host 1 hello") + p.do(fmt.Sprintf("ask %d queue %d", first, mode)) + p.do(fmt.Sprintf("ask %d queue %d", second, mode))
	for waits := 0; !p.beats(1); waits++ {
		if waits > 100 {
			p.Fatalf("%d is not found", match)
		}
	}
	players := append([]int{first, second}, more...)
	for _, n := range players {
		said += p.do(fmt.Sprintf("ask %d accept", n))
	}
	said += p.do("host 1 up")
	for range players {
		p.texts++
		said += p.do(fmt.Sprintf("come 1 %d", p.texts))
	}
	said += p.do(fmt.Sprintf("host 1 result %d 1", match)) + p.do("host 1 freed")
	if strings.Contains(said, "error") || strings.Contains(said, "refused") || strings.Count(said, "live") != len(players) {
		p.Fatal(said)
	}
}

// beats lets a tick, or none, go by, at which no player is idle, and the host 1 is not silent. It tells whether a match is found.
func (p *play) beats(some int) bool {
	p.Helper()
	p.see("host 1 beat -> ok")
	for _, n := range p.players {
		p.see(fmt.Sprintf("ask %d ping 1 -> to %d pong 1", n, n), fmt.Sprintf("gone %d 8192 -> ok", n))
	}
	said := p.do(fmt.Sprintf("tick %d", some))
	if said != "ok" && !strings.HasPrefix(said, "to 1 check ") {
		p.Fatal(said)
	}
	return said != "ok"
}

// rating is a player's.
func (p *play) rating(player int) int {
	p.Helper()
	words := strings.Fields(p.do(fmt.Sprintf("see %d", player)))
	if len(words) != 20 || words[6] != "rating" {
		p.Fatalf("%q", words)
	}
	n, err := strconv.Atoi(words[7])
	if err != nil {
		p.Fatal(err)
	}
	return n
}
