package desk_test

import (
	"fmt"
	"math/rand"
	"regexp"
	"slices"
	"strconv"
	"strings"
	"testing"

	"tiltyard/api"
	"tiltyard/desk"
	"tiltyard/plan"
	"tiltyard/server"
	"tiltyard/verb"
)

// model is a desk once more, as the chapter tells of it: lines are read by patterns, and bytes that go out by their lengths.
type model struct {
	*testing.T
	s     *server.Server
	texts []string
	seen  map[string]int
}

func newModel(t *testing.T) *model {
	s, e := server.New(plan.Config{
		Key: "tilt", Conns: 16, Players: 16, Parties: 8, Instances: 4,
		Times: plan.Times{Idle: 100, TicketLife: 50, TokenLife: 20, Ready: 10, Grace: 15, Beat: 30},
		Rate:  20, Out: 8192,
		Modes: []plan.Mode{{K: 1, Base: 100, Step: 10, Cap: 1000, Every: 1}, {K: 2, Base: 100, Step: 10, Cap: 1000, Every: 1}},
	})
	if e != api.OK {
		t.Fatal(e)
	}
	return &model{T: t, s: s, seen: map[string]int{}}
}

// patterns are those of lines, and what stands in brackets is handed on.
var patterns = []*regexp.Regexp{
	regexp.MustCompile(`\A(now)\z`),
	regexp.MustCompile(`\A(draw|tick) (0|[1-9][0-9]{0,17})\z`),
	regexp.MustCompile(`\A(open|shut|see|queue|match) (0|[1-9][0-9]{0,9})\z`),
	regexp.MustCompile(`\A(issue|gone|login|come) (0|[1-9][0-9]{0,9}) (0|[1-9][0-9]{0,17})\z`),
	regexp.MustCompile(`\A(ask|host) (0|[1-9][0-9]{0,9}) ([a-z-]+)((?: (?:0|[1-9][0-9]{0,17}))*)\z`),
}

// reads are the parts of a line, its first word and what is behind it, and whether it is one of the chapter's as far as its looks tell.
func reads(line string) (first string, parts []string, is bool) {
	for _, p := range patterns {
		m := p.FindStringSubmatch(line)
		if m == nil {
			continue
		}
		if len(m) > 2 && m[1] != "draw" && m[1] != "tick" {
			_, err := strconv.ParseUint(m[2], 10, 32)
			return m[1], m[2:], err == nil
		}
		return m[1], m[2:], true
	}
	return "", nil, false
}

// line is what a line tells.
func (m *model) line(line string) string {
	if line == "" {
		return ""
	}
	first, parts, is := reads(line)
	if !is {
		return "error 27\n"
	}
	num := func(i int) uint64 {
		if i >= len(parts) {
			return 0
		}
		n, _ := strconv.ParseUint(parts[i], 10, 64)
		return n
	}
	a, b := uint32(num(0)), num(1)
	switch first {
	case "issue":
		text, e := m.s.Issue(a, b)
		if e != api.OK {
			return m.answer(nil, e)
		}
		m.texts = append(m.texts, text)
		return fmt.Sprintf("text %d\n", len(m.texts))
	case "draw":
		m.s.Draw(num(0))
		return "ok\n"
	case "open":
		return m.answer(nil, m.s.Open(a))
	case "shut":
		return m.answer(m.s.Shut(a))
	case "gone":
		return m.answer(nil, m.s.Gone(a, int(min(b, 1<<30))))
	case "tick":
		return m.answer(m.s.Tick(int64(num(0))), api.OK)
	case "login", "come":
		if b < 1 || b > uint64(len(m.texts)) {
			return "error 27\n"
		}
		return m.feed(first == "come", a, verb.Make(map[string]int{"login": 1, "come": 195}[first]).With(m.texts[b-1]))
	case "ask", "host":
		kind, _ := verb.Kind(parts[1])
		if verb.Side(kind) != map[string]int{"ask": 1, "host": 4}[first] || kind == 1 || kind == 195 {
			return "error 27\n"
		}
		var numbers []uint64
		for _, word := range strings.Fields(parts[2]) {
			n, _ := strconv.ParseUint(word, 10, 64)
			numbers = append(numbers, n)
		}
		return m.feed(first == "host", a, verb.Make(kind, numbers...))
	}
	return m.looks(first, a)
}

// looks is what is told by a line that only looks.
func (m *model) looks(first string, id uint32) string {
	told := ""
	switch first {
	case "see":
		x, is := m.s.See(id)
		if !is {
			return "error 12\n"
		}
		return fmt.Sprintf("player %d conn %d status %d rating %d party %d ticket %d check %d match %d level %d until %d\n",
			x.Player, x.Conn, x.Status, x.Rating, x.Party, x.Ticket, x.Check, x.Match, x.Mark.Level, x.Mark.Until)
	case "queue":
		for _, t := range m.s.Queue(int(id)) {
			told += fmt.Sprintf("ticket %d since %d rating %d players %s\n", t.Id, t.Since, t.Rating, strings.Trim(fmt.Sprint(t.Players), "[]"))
		}
		if told == "" {
			told = "ok\n"
		}
	case "match":
		x, is := m.s.Match(id)
		if !is {
			return "error 12\n"
		}
		told = fmt.Sprintf("match %d mode %d instance %d\n", x.Id, x.Mode, x.Instance)
		for _, s := range x.Seats {
			told += fmt.Sprintf("seat %d player %d team %d state %d\n", s.Number, s.Player, s.Team, s.State)
		}
	case "now":
		told = fmt.Sprintf("now %d\n", m.s.Now())
	}
	return told
}

// feed lets a message come.
func (m *model) feed(host bool, to uint32, msg verb.Msg) string {
	b, e := verb.Encode(msg)
	if e != api.OK {
		return m.answer(nil, e)
	}
	b = append([]byte{byte(len(b) / 256), byte(len(b) % 256)}, b...)
	if host {
		return m.answer(m.s.HostFeed(to, b))
	}
	return m.answer(m.s.Feed(to, b))
}

// answer is what is told of sends, or of an error.
func (m *model) answer(sends []server.Send, e api.Errno) string {
	if e != api.OK {
		return fmt.Sprintf("error %d\n", e)
	}
	told := ""
	for _, x := range sends {
		for b := x.Bytes; len(b) > 0; {
			end := 2 + int(b[0])*256 + int(b[1])
			msg, e := verb.Decode(b[2:end])
			if e != api.OK {
				m.Fatalf("%v: error %d", b, e)
			}
			told += m.message(x, msg) + "\n"
			b = b[end:]
		}
		if x.Close {
			m.seen["close"]++
			told += fmt.Sprintf("close %d\n", x.To)
		}
	}
	if told == "" {
		return "ok\n"
	}
	return told
}

// message is what is told of one that goes out.
func (m *model) message(x server.Send, msg verb.Msg) string {
	m.seen[verb.Name(msg.Kind)]++
	told := fmt.Sprintf("%s %d %s", map[bool]string{false: "to", true: "host"}[x.Host], x.To, verb.Name(msg.Kind))
	for _, n := range msg.N {
		told += fmt.Sprintf(" %d", n)
	}
	for _, l := range msg.L {
		told += " ["
		for _, n := range l {
			told += fmt.Sprintf(" %d", n)
		}
		told += " ]"
	}
	for _, text := range msg.S {
		m.texts = append(m.texts, text)
		told += fmt.Sprintf(" text %d", len(m.texts))
	}
	return told
}

// chance makes lines by chance, as a model is now.
type chance struct {
	*rand.Rand
	*model
	nonce int
}

// pick is one of some lines, in which % stands for an id of one of few players, connections or instances.
func (c *chance) pick(lines ...string) string {
	line := lines[c.Intn(len(lines))]
	for strings.Contains(line, "%") {
		line = strings.Replace(line, "%", strconv.Itoa(1+c.Intn(5)), 1)
	}
	return line
}

// next is a line that comes next: as often as not one by which a match goes on.
func (c *chance) next() string {
	c.nonce++
	switch n := c.Intn(40); {
	case n == 0:
		return c.pick("", " ", "now ", "now 1", "x", "open", "ask % login 1", "host % come 1", "ask % hello", "host % ping 1", "login % 0", "come % 9999", "open 4294967296", "tick 01", "tick 1000000000000000000", "issue 0 1", "open 0")
	case n == 1:
		return c.pick("shut %", "gone % 50", "gone % 999999999999999999", "draw 7", "draw 999999999999999999", "tick 20", "tick 40")
	case n < 5:
		return c.pick("see %", "queue 0", "queue 1", "queue 2", "match %", "now")
	case n < 9:
		return c.pick("tick 0", "tick 1", "tick 1", "tick 2", "tick 5")
	case n < 16:
		return c.pick("ask % friend-ask %", "ask % friend-ask %", "ask % friend-accept %", "ask % friend-accept %", "ask % friends", "ask % invite %", "ask % join 1", "ask % party", "ask % leave", "ask % ping", "ask % queue 256", "ask % rating %", "ask % penalty", "ask % match", "ask % logout", "ask % decline", "ask % token", "ask % cancel", "ask % block %", "ask % unblock %")
	case n < 20:
		return c.pick("host % hello", "host % beat", "host % up", "host % freed", "host % left %", "host % result % 1", "host % result % 3")
	}
	return c.goesOn(uint32(1 + c.Intn(5)))
}

// goesOn is a line that brings a player nearer to the end of a match.
func (c *chance) goesOn(player uint32) string {
	x, is := c.s.See(player)
	switch {
	case !is || x.Conn == 0:
		return c.pick("open %", fmt.Sprintf("issue %d %d", player, c.nonce), fmt.Sprintf("login %% %d", max(1, len(c.texts)-c.Intn(4))))
	case x.Status == api.Idle:
		return fmt.Sprintf("ask %d queue %d", x.Conn, c.Intn(4)/3)
	case x.Status == api.Queued:
		return c.pick("tick 1", "host % hello")
	case x.Status == api.Checking:
		return fmt.Sprintf("ask %d accept", x.Conn)
	}
	m, _ := c.s.Match(x.Match)
	come := fmt.Sprintf("come %d %d", m.Instance, max(1, len(c.texts)-c.Intn(6)))
	return c.pick(fmt.Sprintf("host %d up", m.Instance), come, come, come, come, fmt.Sprintf("host %d left %d", m.Instance, player), fmt.Sprintf("host %d result %d %d", m.Instance, m.Id, c.Intn(3)))
}

// P28.1, P28.2: lines by chance tell what the chapter says, one by one and as a text, twice the same, and the first ones tell the same when more follow.
func TestByChance(t *testing.T) {
	seen := map[string]int{}
	for seed := range int64(40) {
		m := newModel(t)
		m.seen = seen
		c := &chance{Rand: rand.New(rand.NewSource(seed)), model: m}
		d := desk.New()
		var lines, told []string
		for range 600 {
			line := c.next()
			want := m.line(line)
			seen[strings.TrimSuffix(want, "\n")]++
			if got := d.Line(line); got != want {
				t.Fatalf("seed %d: %q\n got %q\nwant %q", seed, line, got, want)
			}
			lines, told = append(lines, line), append(told, want)
		}
		follows(t, c.Rand, lines, told)
	}
	for what, least := range map[string]int{
		"welcome": 200, "check": 100, "start": 20, "live": 20, "over": 20, "friend-now": 10, "friend-list": 50, "party-now": 10, "penalised": 10, "bye": 20, "error": 500, "refused": 200, "close": 20,
		"error 1": 20, "error 2": 10, "error 11": 50, "error 12": 500, "error 14": 10, "error 27": 200, "ok": 1000,
	} {
		if seen[what] < least {
			t.Errorf("%s: only %d", what, seen[what])
		}
	}
}

// follows tells what is wrong with what texts of lines tell.
func follows(t *testing.T, r *rand.Rand, lines, told []string) {
	t.Helper()
	for _, cut := range []int{0, 1, 2, r.Intn(len(lines)), r.Intn(len(lines)), len(lines)} {
		text, want := strings.Join(lines[:cut], "\n"), strings.Join(told[:cut], "")
		whole := strings.Join(slices.Insert(slices.Clone(lines[cut:]), 0, text), "\n")
		if cut == 0 {
			whole = strings.Join(lines, "\n")
		}
		for range 2 {
			if got := desk.Run(text); got != want {
				t.Fatalf("%d lines tell\n%s\nwant\n%s", cut, got, want)
			}
			if got := desk.Run(whole); got != strings.Join(told, "") {
				t.Fatalf("of %d lines and more is told\n%s", cut, got)
			}
		}
	}
}

// P28.1, P28.2: what is told of a text are its lines, parted by line feeds alone, those without any byte, too.
func TestRun(t *testing.T) {
	for _, x := range [][2]string{
		{"", ""}, {"\n", ""}, {"\n\n\n", ""}, {"now", "now 0\n"}, {"now\n", "now 0\n"}, {"\nnow", "now 0\n"}, {"\n\nnow\n\n", "now 0\n"},
		{"now\ntick 3\n\nnow", "now 0\nok\nnow 3\n"}, {"now\r\nnow", "error 27\nnow 0\n"}, {"now\vnow", "error 27\n"}, {"now\u2028now", "error 27\n"}, {"now\x00now", "error 27\n"},
		{" ", "error 27\n"}, {" \n ", "error 27\nerror 27\n"}, {"issue 7 1\nopen 1\nlogin 1 1\nask 1 party", "text 1\nok\nto 1 welcome 7 1500 1\nto 1 party-is 0 0 [ ]\n"},
		{"open 1\nopen 1\nshut 1\nopen 1", "ok\nerror 11\nok\nok\n"}, {"tick 1", "ok\n"}, {"now", "now 0\n"},
	} {
		for range 2 {
			if got := desk.Run(x[0]); got != x[1] {
				t.Errorf("%q: %q, want %q", x[0], got, x[1])
			}
		}
	}
	long := strings.Repeat("tick 1\n", 100000)
	if got := desk.Run(long + "now"); got != strings.Repeat("ok\n", 100000)+"now 100000\n" {
		t.Errorf("a long text: %d bytes", len(got))
	}
	for cut := range tale {
		one, two := strings.Join(tale[:cut+1], "\n"), strings.Join(tale[cut+1:], "\n")
		if first, both := desk.Run(one), desk.Run(one+"\n"+two); !strings.HasPrefix(both, first) || first == "" {
			t.Errorf("%d lines: %q, then %q", cut+1, first, both)
		}
	}
}

// R6: desks have nothing in common.
func TestApart(t *testing.T) {
	a, b := desk.New(), desk.New()
	for _, line := range tale {
		want := a.Line(line)
		for _, other := range []string{"now", "issue 9 9", "open 16", "tick 0"} {
			desk.New().Line(other)
		}
		if got := b.Line(line); got != want {
			t.Errorf("%s: %q, want %q", line, got, want)
		}
	}
}
