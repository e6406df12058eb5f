package plan_test

import (
	"math"
	"math/big"
	"math/rand"
	"reflect"
	"slices"
	"strings"
	"testing"

	"tiltyard/plan"
)

const (
	least = math.MinInt64
	most  = math.MaxInt64
	ticks = 1 << 40
)

// right is a mode that is right.
var right = plan.Mode{K: 1, Base: 100, Step: 50, Cap: 300, Every: 10}

// usual is what the chapter says of the usual config, with some modes.
func usual(modes ...plan.Mode) plan.Config {
	var c plan.Config
	c.Key = "tilt"
	c.Conns, c.Players, c.Parties, c.Instances = 16, 16, 8, 4
	c.Idle, c.TicketLife, c.TokenLife, c.Ready, c.Grace, c.Beat = 100, 50, 20, 10, 15, 30
	c.Rate, c.Out = 20, 8192
	c.Modes = modes
	return c
}

// same tells whether two configs say the same.
func same(a, b plan.Config) bool {
	modes := slices.Equal(a.Modes, b.Modes)
	a.Modes, b.Modes = nil, nil
	return modes && reflect.DeepEqual(a, b)
}

// bound is a thing of a config or of a mode: its name, how it is set, and the least and the most that it may be.
type bound[T any] struct {
	name        string
	set         func(*T, int64)
	least, most int64
}

// ofConfigs are the things of a config, in the order in which they are looked at.
var ofConfigs = []bound[plan.Config]{
	{"Key", func(c *plan.Config, n int64) { c.Key = text(n) }, 1, 255},
	{"Conns", func(c *plan.Config, n int64) { c.Conns = number(n) }, 1, 64},
	{"Players", func(c *plan.Config, n int64) { c.Players = number(n) }, 1, 64},
	{"Parties", func(c *plan.Config, n int64) { c.Parties = number(n) }, 1, 32},
	{"Instances", func(c *plan.Config, n int64) { c.Instances = number(n) }, 0, 16},
	{"Idle", func(c *plan.Config, n int64) { c.Idle = n }, 1, ticks},
	{"TicketLife", func(c *plan.Config, n int64) { c.TicketLife = n }, 1, ticks},
	{"TokenLife", func(c *plan.Config, n int64) { c.TokenLife = n }, 1, ticks},
	{"Ready", func(c *plan.Config, n int64) { c.Ready = n }, 1, ticks},
	{"Grace", func(c *plan.Config, n int64) { c.Grace = n }, 1, ticks},
	{"Beat", func(c *plan.Config, n int64) { c.Beat = n }, 1, ticks},
	{"Rate", func(c *plan.Config, n int64) { c.Rate = number(n) }, 1, 65536},
	{"Out", func(c *plan.Config, n int64) { c.Out = number(n) }, 1026, 65536},
	{"Modes", func(c *plan.Config, n int64) { c.Modes = several(n) }, 1, 4},
}

// ofModes are the things of a mode, likewise, as they are with Base 0 and Cap 10000.
var ofModes = []bound[plan.Mode]{
	{"K", func(m *plan.Mode, n int64) { m.K = number(n) }, 1, 4},
	{"Base", func(m *plan.Mode, n int64) { m.Base = number(n) }, 0, 10000},
	{"Step", func(m *plan.Mode, n int64) { m.Step = number(n) }, 0, 10000},
	{"Cap", func(m *plan.Mode, n int64) { m.Cap = number(n) }, 0, 10000},
	{"Every", func(m *plan.Mode, n int64) { m.Every = n }, 1, ticks},
}

// number is a number, or the one that is nearest, where whole numbers are smaller.
func number(n int64) int { return int(min(max(n, math.MinInt), math.MaxInt)) }

// text has so many bytes, as far as there can be so many.
func text(n int64) string { return strings.Repeat("k", int(min(max(n, 0), 1<<20))) }

// several are so many modes, likewise, all of which are right.
func several(n int64) []plan.Mode {
	return slices.Repeat([]plan.Mode{right}, int(min(max(n, 0), 1<<16)))
}

// wide is a mode of which each thing alone may be anything within its bounds.
func wide() plan.Mode { return plan.Mode{K: 1, Base: 0, Step: 0, Cap: 10000, Every: 1} }

// outside are numbers below the least and above the most that a thing may be.
func (b bound[T]) outside() []int64 {
	return []int64{b.least - 1, b.most + 1, b.least - 2, b.most + 2, -1, -1 << 31, least, b.most * 2, 1 << 41, most - 1, most}
}

// inside are numbers that a thing may be.
func (b bound[T]) inside() []int64 {
	return []int64{b.least, b.most, b.least + 1, b.most - 1, (b.least + b.most) / 2}
}

// each fails unless a thing is wrong just where it is out of its bounds, at the numbers that are tried.
func each[T any](t *testing.T, bounds []bound[T], make func() T, wrong func(T) string) {
	t.Helper()
	for _, b := range bounds {
		for _, n := range b.inside() {
			x := make()
			if b.set(&x, n); wrong(x) != "" {
				t.Errorf("%s %d: %q", b.name, n, wrong(x))
			}
		}
		for _, n := range b.outside() {
			x := make()
			if b.set(&x, n); wrong(x) != b.name {
				t.Errorf("%s %d: %q", b.name, n, wrong(x))
			}
		}
	}
}

// firsts fails unless of all sets of things that are out of their bounds, on either side, the first one is named.
func firsts[T any](t *testing.T, bounds []bound[T], make func() T, wrong func(T) string) {
	t.Helper()
	for set := range 1 << len(bounds) {
		for side := range 2 {
			x, want := make(), ""
			for i, b := range bounds {
				if set>>i&1 == 0 {
					continue
				}
				if b.set(&x, []int64{b.least - 1, b.most + 1}[side]); want == "" {
					want = b.name
				}
			}
			if got := wrong(x); got != want {
				t.Errorf("set %b: %q, not %q", set, got, want)
			}
		}
	}
}

// P11.1

func TestUsual(t *testing.T) {
	other := plan.Mode{K: 4, Base: 0, Step: 1, Cap: 10000, Every: ticks}
	wrong := plan.Mode{K: -1, Every: least}
	for _, modes := range [][]plan.Mode{nil, {}, {right}, {right, other}, {other, right, right}, {wrong}, {wrong, right, {}, other, right, other}} {
		if c := plan.Usual(modes...); !same(c, usual(modes...)) {
			t.Errorf("%v: %v", modes, c)
		}
	}
}

func TestUsualIsRightIfItsModesAre(t *testing.T) {
	for n := range int64(7) {
		want := ""
		if n < 1 || n > 4 {
			want = "Modes"
		}
		if got := plan.Usual(several(n)...).Wrong(); got != want {
			t.Errorf("%d modes: %q", n, got)
		}
	}
}

func TestUsualHasModesOfItsOwn(t *testing.T) {
	modes := []plan.Mode{right, {K: 2}, {K: 3}}
	c, d := plan.Usual(modes[:2]...), plan.Usual(modes[:2]...)
	modes[0].K = 4
	c.Modes[1].K = 3
	c.Modes = append(c.Modes, right)
	if c.Modes[0] != right || !slices.Equal(d.Modes, []plan.Mode{right, {K: 2}}) || !slices.Equal(modes, []plan.Mode{{4, 100, 50, 300, 10}, {K: 2}, {K: 3}}) {
		t.Errorf("%v, %v, %v", c.Modes, d.Modes, modes)
	}
}

// The times that are embedded in a config are its own.
func TestTimesAreTheConfigs(t *testing.T) {
	c := plan.Usual(right)
	if c.Times != (plan.Times{Idle: 100, TicketLife: 50, TokenLife: 20, Ready: 10, Grace: 15, Beat: 30}) {
		t.Errorf("%v", c.Times)
	}
	c.Times = plan.Times{Idle: 1, TicketLife: 2, TokenLife: 3, Ready: 4, Grace: 5, Beat: 6}
	if c.Idle != 1 || c.TicketLife != 2 || c.TokenLife != 3 || c.Ready != 4 || c.Grace != 5 || c.Beat != 6 || c.Wrong() != "" {
		t.Errorf("%v", c)
	}
}

// P11.2

func TestWhatIsWrongWithAMode(t *testing.T) {
	each(t, ofModes, wide, plan.Mode.Wrong)
}

func TestTheFirstThingOfAMode(t *testing.T) {
	firsts(t, ofModes, wide, plan.Mode.Wrong)
}

func TestBaseAndCap(t *testing.T) {
	for _, c := range []struct {
		base, top int
		want      string
	}{
		{0, 0, ""}, {1, 1, ""}, {9, 10, ""}, {0, 10000, ""}, {10000, 10000, ""}, {9999, 10000, ""},
		{1, 0, "Cap"}, {9, 8, "Cap"}, {10000, 9999, "Cap"}, {10000, 0, "Cap"}, {5, -1, "Cap"}, {5, math.MinInt, "Cap"},
		{-1, -1, "Base"}, {-1, -2, "Base"}, {10001, 10001, "Base"}, {10001, 10002, "Base"}, {math.MaxInt, math.MaxInt, "Base"}, {-5, 8, "Base"},
	} {
		if got := (plan.Mode{K: 1, Base: c.base, Cap: c.top, Every: 1}).Wrong(); got != c.want {
			t.Errorf("Base %d, Cap %d: %q, not %q", c.base, c.top, got, c.want)
		}
	}
	// Between Base and Cap stands Step, and behind them Every.
	for m, want := range map[plan.Mode]string{
		{K: 1, Base: 9, Step: -1, Cap: 8, Every: 1}: "Step",
		{K: 1, Base: 9, Step: 1, Cap: 8, Every: 0}:  "Cap",
		{K: 5, Base: 9, Step: 1, Cap: 8, Every: 0}:  "K",
		{K: 1}: "Every",
		{}:     "K",
	} {
		if got := m.Wrong(); got != want {
			t.Errorf("%v: %q, not %q", m, got, want)
		}
	}
}

func TestWhatIsWrongWithAConfig(t *testing.T) {
	each(t, ofConfigs, func() plan.Config { return usual(right) }, plan.Config.Wrong)
}

func TestTheFirstThingOfAConfig(t *testing.T) {
	firsts(t, ofConfigs, func() plan.Config { return usual(right) }, plan.Config.Wrong)
}

func TestTheZeroConfig(t *testing.T) {
	if got := (plan.Config{}).Wrong(); got != "Key" {
		t.Errorf("%q", got)
	}
}

// A key is told by its bytes, whatever they are.
func TestKeys(t *testing.T) {
	for key, want := range map[string]string{
		"": "Key", "\x00": "", "\xff": "", " ": "",
		strings.Repeat("\u00e9", 127): "", strings.Repeat("\u00e9", 127) + "k": "", strings.Repeat("\u00e9", 128): "Key",
	} {
		c := usual(right)
		if c.Key = key; c.Wrong() != want {
			t.Errorf("%d bytes: %q, not %q", len(key), c.Wrong(), want)
		}
	}
}

// Of the modes the first one that is not right counts, behind all that is the config's own.
func TestWhatIsWrongWithModesOfAConfig(t *testing.T) {
	for i, b := range ofModes {
		for place := range 4 {
			c := usual(several(4)...)
			if b.set(&c.Modes[place], -1); c.Wrong() != b.name {
				t.Errorf("the mode %d, %s: %q", place, b.name, c.Wrong())
			}
			// One behind it that is wrong otherwise does not count.
			for _, other := range ofModes {
				for behind := place + 1; behind < 4; behind++ {
					d := plan.Usual(c.Modes...)
					if other.set(&d.Modes[behind], -1); d.Wrong() != b.name {
						t.Errorf("%d of the mode %d, then %s: %q", i, place, other.name, d.Wrong())
					}
				}
			}
			if c.Out = 1025; c.Wrong() != "Out" {
				t.Errorf("Out, ahead of %s: %q", b.name, c.Wrong())
			}
			c.Out = 1026
			if c.Modes = append(c.Modes, right); c.Wrong() != "Modes" {
				t.Errorf("Modes, ahead of %s: %q", b.name, c.Wrong())
			}
		}
	}
}

// P11.3

// window is what the chapter says of a window of a right mode, in numbers of any size.
func window(m plan.Mode, wait int64) int64 {
	steps := new(big.Int).Quo(big.NewInt(max(wait, 0)), big.NewInt(m.Every))
	w := steps.Mul(steps, big.NewInt(int64(m.Step)))
	w.Add(w, big.NewInt(int64(m.Base)))
	if top := big.NewInt(int64(m.Cap)); w.Cmp(top) > 0 {
		return int64(m.Cap)
	}
	return w.Int64()
}

// modes are right ones, at the edges of what may be.
func modes() []plan.Mode {
	var l []plan.Mode
	for _, base := range []int{0, 1, 100, 9999, 10000} {
		for _, step := range []int{0, 1, 50, 3333, 10000} {
			for _, top := range []int{0, 1, 100, 101, 300, 9999, 10000} {
				for _, every := range []int64{1, 2, 10, ticks - 1, ticks} {
					if base <= top {
						l = append(l, plan.Mode{K: len(l)%4 + 1, Base: base, Step: step, Cap: top, Every: every})
					}
				}
			}
		}
	}
	return l
}

func TestTheExampleOfWindows(t *testing.T) {
	for _, c := range []struct {
		wait int64
		want int
	}{
		{9, 100}, {25, 200}, {1000, 300},
		{0, 100}, {10, 150}, {19, 150}, {20, 200}, {29, 200}, {30, 250}, {39, 250}, {40, 300}, {41, 300}, {50, 300}, {most, 300},
		{-1, 100}, {-10, 100}, {-1000, 100}, {least, 100},
	} {
		if got := right.Window(c.wait); got != c.want {
			t.Errorf("behind %d: %d, not %d", c.wait, got, c.want)
		}
	}
}

func TestWindow(t *testing.T) {
	r := rand.New(rand.NewSource(1))
	for _, m := range modes() {
		if m.Wrong() != "" {
			t.Fatalf("%v: %q", m, m.Wrong())
		}
		waits := []int64{least, least + 1, -ticks, -1, 0, 1, most - 1, most, ticks, r.Int63(), -r.Int63(), r.Int63n(1000)}
		for _, many := range []int64{1, 2, 3, 99, 100, 9999, 10000, 10001, 1 << 20} {
			waits = append(waits, m.Every*many-1, m.Every*many, m.Every*many+1)
		}
		for _, wait := range waits {
			if got, want := m.Window(wait), window(m, wait); int64(got) != want {
				t.Errorf("%v behind %d: %d, not %d", m, wait, got, want)
			}
		}
	}
}

func TestWindowOfAWrongMode(t *testing.T) {
	waits := []int64{least, -1, 0, 1, 9, 25, 1000, ticks, most}
	for _, b := range ofModes {
		for _, n := range b.outside() {
			m := right
			b.set(&m, n)
			for _, wait := range waits {
				if got := m.Window(wait); got != 0 {
					t.Errorf("%v behind %d: %d", m, wait, got)
				}
			}
		}
	}
	for _, m := range []plan.Mode{{}, {K: 1, Base: 9, Cap: 8, Every: 1}, {K: 1, Base: 100, Step: 50, Cap: 300}, {K: 1, Base: 100, Cap: 300, Every: -1}} {
		for _, wait := range waits {
			if got := m.Window(wait); got != 0 {
				t.Errorf("%v behind %d: %d", m, wait, got)
			}
		}
	}
}

func TestModeOfAConfig(t *testing.T) {
	all := []plan.Mode{right, {K: 2}, {}, {K: 4, Every: 9}, {K: -1}}
	for many := range len(all) + 1 {
		c := plan.Usual(all[:many]...)
		for i, want := range all[:many] {
			if m, is := c.Mode(i); m != want || !is {
				t.Errorf("%d of %d: %v, %v", i, many, m, is)
			}
		}
		for _, i := range []int{-1, many, many + 1, -2, -many, 1 << 30, math.MaxInt, math.MinInt} {
			if i >= 0 && i < many {
				continue
			}
			if m, is := c.Mode(i); m != (plan.Mode{}) || is {
				t.Errorf("%d of %d: %v, %v", i, many, m, is)
			}
		}
	}
	if m, is := (plan.Config{}).Mode(0); m != (plan.Mode{}) || is {
		t.Errorf("%v, %v", m, is)
	}
}

func TestModesCanBeCompared(t *testing.T) {
	seen := map[plan.Mode]int{}
	for range 2 {
		for _, m := range []plan.Mode{{1, 2, 3, 4, 5}, {9, 2, 3, 4, 5}, {1, 9, 3, 4, 5}, {1, 2, 9, 4, 5}, {1, 2, 3, 9, 5}, {1, 2, 3, 4, 9}} {
			seen[m]++
		}
	}
	if len(seen) != 6 || seen[plan.Mode{K: 1, Base: 2, Step: 3, Cap: 4, Every: 5}] != 2 {
		t.Errorf("%d of 6 are told apart", len(seen))
	}
}

// P11.4

func TestAWindowNeverShrinks(t *testing.T) {
	r := rand.New(rand.NewSource(2))
	for _, m := range modes() {
		waits := []int64{least, -1, 0, 1, most}
		for range 30 {
			waits = append(waits, r.Int63()>>r.Intn(63))
		}
		slices.Sort(waits)
		last := m.Base
		for _, wait := range waits {
			w := m.Window(wait)
			if w < last || w > m.Cap {
				t.Errorf("%v: %d behind %d, %d ahead of it", m, w, wait, last)
			}
			last = w
		}
	}
}

func TestAWindowIsAtItsCapAtLast(t *testing.T) {
	for _, m := range modes() {
		want := m.Cap
		if m.Step == 0 {
			want = m.Base
		}
		for _, wait := range []int64{int64(m.Cap) * m.Every, int64(m.Cap)*m.Every + 1, most} {
			if got := m.Window(wait); got != want {
				t.Errorf("%v behind %d: %d, not %d", m, wait, got, want)
			}
		}
	}
}

// The rules R4 and R6

func TestToAskChangesNothing(t *testing.T) {
	c := plan.Usual(right, plan.Mode{K: 2})
	for range 3 {
		m, is := c.Mode(0)
		m.K = 9
		if c.Wrong() != "Every" || !is || !same(c, usual(right, plan.Mode{K: 2})) {
			t.Errorf("%q, %v", c.Wrong(), c)
		}
		if m, _ = c.Mode(0); m != right || m.Window(25) != 200 || m.Wrong() != "" {
			t.Errorf("%v", m)
		}
	}
}
