package user_test

import (
	"fmt"
	"math"
	"math/rand"
	"slices"
	"strings"
	"testing"

	"lapwing/api"
	"lapwing/draw"
	"lapwing/source"
	"lapwing/teimsg"
	"lapwing/user"
)

// words is a user as the chapter's words have it.
type words struct {
	n202      int
	tei       int // 0: none, which no automatic TEI is
	asks      bool
	ri, tries int
	drawn     int
}

func newWords(n202 int) *words { return &words{n202: max(1, min(n202, 32))} }

// draw: the next number, as a bench's source tells it.
func (w *words) draw() int {
	w.drawn++
	return ahead + w.drawn
}

func (w *words) ask() string {
	w.asks, w.ri = true, w.draw()
	return at(w.ri, "Request/@/127 start")
}

func (w *words) lose() string {
	lost := at(w.tei, "lost:@")
	w.tei = 0
	return lost
}

func (w *words) view() user.View {
	switch {
	case w.asks:
		return asking(w.ri, w.tries)
	case w.tei != 0:
		return holding(w.tei)
	}
	return neither()
}

// step: what is told of a step, and the error.
func (w *words) step(step string) (string, api.Errno) {
	switch step {
	case "want":
		return w.want()
	case "verify":
		if w.tei == 0 {
			return "", api.ErrNone
		}
		return at(w.tei, "Verify/0/@"), api.OK
	case "drop":
		return w.drop()
	case "over":
		return w.over(), api.OK
	}
	m := strings.Split(step, "/")
	return w.message(m[0], number(m[1]), number(m[2])), api.OK
}

func (w *words) want() (string, api.Errno) {
	if w.tei != 0 {
		return "", api.ErrThere
	}
	if w.asks {
		return "", api.ErrState
	}
	w.tries = 1
	return w.ask(), api.OK
}

func (w *words) drop() (string, api.Errno) {
	if w.asks {
		w.asks = false
		return "stop", api.OK
	}
	if w.tei != 0 {
		return w.lose(), api.OK
	}
	return "", api.ErrNone
}

func (w *words) over() string {
	if !w.asks {
		return ""
	}
	if w.tries == w.n202 {
		w.asks = false
		return "failed"
	}
	w.tries++
	return w.ask()
}

func (w *words) message(kind string, ri, ai int) string {
	good := ri >= 0 && ri <= greatest && ai >= 0 && ai <= all
	mine := w.tei != 0 && ai == w.tei
	everybody := w.tei != 0 && ai == all
	switch {
	case !good:
		return ""
	case kind == "Assigned" && w.asks && ri == w.ri && ai >= first && ai <= last:
		w.asks, w.tei = false, ai
		return at(ai, "stop got:@")
	case kind == "Assigned" && mine:
		return w.lose()
	case kind == "CheckRequest" && (mine || everybody):
		return fmt.Sprintf("CheckResponse/%d/%d", w.draw(), w.tei)
	case kind == "Remove" && (mine || everybody):
		return w.lose()
	}
	return ""
}

// outside are numbers that can be neither an Ri nor an Ai.
var outside = []int{-1, -2, -64, -65536, 65536, 65600, 66537, 1 << 32, math.MinInt, math.MaxInt}

// chanceStep: one picked by chance: its numbers are those that the user has more often than others.
func chanceStep(chance *rand.Rand, w *words) string {
	ai, ri := chance.Intn(all+1), chance.Intn(greatest+1)
	if w.tei != 0 && chance.Intn(2) == 0 {
		ai = w.tei
	}
	if chance.Intn(5) == 0 {
		ai = all
	}
	if chance.Intn(3) > 0 {
		ri = w.ri - chance.Intn(2)*chance.Intn(2)
	}
	switch n := chance.Intn(40); {
	case n < 5:
		return "want"
	case n < 7:
		return "verify"
	case n == 7:
		return "drop"
	case n < 16:
		return "over"
	case n < 24:
		return fmt.Sprintf("Assigned/%d/%d", ri, ai)
	case n < 30:
		return fmt.Sprintf("CheckRequest/%d/%d", ri, ai)
	case n < 32:
		return fmt.Sprintf("Remove/%d/%d", ri, ai)
	case n == 32:
		ri = outside[chance.Intn(len(outside))]
	case n == 33:
		ai = outside[chance.Intn(len(outside))]
	}
	kinds := []string{"Denied", "Request", "CheckResponse", "Verify", "Assigned", "CheckRequest", "Remove"}
	if n := chance.Intn(len(kinds)); ri < 0 || ri > greatest || ai < 0 || ai > all || n < 4 {
		return fmt.Sprintf("%s/%d/%d", kinds[n], ri, ai)
	}
	return "over"
}

// P16.1 to P16.4: long rows of steps against the chapter's words, with few tries and with many.
func TestWords(t *testing.T) {
	chance := rand.New(rand.NewSource(16))
	for round := range 140 {
		n202 := round%35 - 1
		b, w := newBench(n202), newWords(n202)
		var row []string
		for range 1500 {
			step := chanceStep(chance, w)
			row = append(row, step)
			want, bad := w.step(step)
			if got, e := do(b.user, step); !slices.Equal(got, effects(want)) || e != bad {
				t.Fatalf("n202 %d: %s: %v, %v, want %q, %v, behind %s", n202, step, got, e, want, bad, row)
			}
			holdHas(t, b.user, w.view())
			holdDraws(t, b, w.drawn)
		}
	}
}

// site is terminals' users and their network's source, between which messages go, of which some are lost.
type site struct {
	network *source.Source
	users   []*user.User
	lost    func() bool
}

// up: what a user does is done: its messages go to the network.
func (x *site) up(did []user.Effect) {
	for _, e := range did {
		if e.Kind == user.Send && !x.lost() {
			x.down(x.network.Message(e.Message))
		}
	}
}

// down: what the network does is done: its messages go to all users.
func (x *site) down(did []source.Effect) {
	for _, e := range did {
		for _, u := range x.users {
			if e.Kind == source.Send && !x.lost() {
				x.up(u.Message(e.Message))
			}
		}
	}
}

// want: each user wants a TEI, and asks till it has one, or gives up.
func (x *site) want() {
	for _, u := range x.users {
		did, _ := u.Want()
		x.up(did)
	}
	for range most {
		for _, u := range x.users {
			x.up(u.Timeout())
		}
	}
}

// audit: the network asks who holds its TEIs, and waits for the answers.
func (x *site) audit() {
	x.down(x.network.Audit())
	for range 3 {
		for _, c := range x.network.Checks() {
			x.down(x.network.Timeout(c.TEI))
		}
	}
}

// teis: those that users have, rising.
func (x *site) teis() []int {
	var out []int
	for _, u := range x.users {
		if tei := u.View().TEI; tei != -1 {
			out = append(out, tei)
		}
	}
	slices.Sort(out)
	return out
}

func newSite(users int, lost func() bool) *site {
	x := &site{network: source.New(), lost: lost}
	for i := range users {
		x.users = append(x.users, user.New(most, draw.New(uint64(i))))
	}
	return x
}

func never() bool { return false }

// P16.1 to P16.4: as many users as there are TEIs get one each; one more gives up; what one drops, another one gets behind an audit.
func TestSite(t *testing.T) {
	x := newSite(64, never)
	x.want()
	var want []int
	eachTEI(func(tei int) { want = append(want, tei) })
	if got := x.teis(); !slices.Equal(got, want) || !slices.Equal(x.network.List(), want) {
		t.Fatalf("users have %v, of %v", got, x.network.List())
	}
	holdHas(t, x.users[63], neither())
	did, e := x.users[5].Drop()
	if e != api.OK || len(did) != 1 {
		t.Fatalf("Drop() = %v, %v", did, e)
	}
	x.audit()
	did, _ = x.users[63].Want()
	x.up(did)
	holdHas(t, x.users[63], holding(69))
}

// P16.2: two users that drew the same number, both asking, take the same TEI; an audit finds two answers for it, and both lose it.
func TestSiteTwo(t *testing.T) {
	x := newSite(3, never)
	x.users[0], x.users[1] = user.New(1, draw.New(0, 7)), user.New(1, draw.New(9, 7))
	asked, _ := x.users[0].Want()
	late, _ := x.users[1].Want()
	x.up(asked)
	holdHas(t, x.users[0], holding(64))
	holdHas(t, x.users[1], holding(64))
	asked, _ = x.users[2].Want()
	x.up(asked)
	holdHas(t, x.users[2], holding(65))
	x.audit()
	holdHas(t, x.users[0], neither())
	holdHas(t, x.users[1], neither())
	holdHas(t, x.users[2], holding(65))
	if got := x.network.List(); !slices.Equal(got, []int{65}) {
		t.Fatalf("assigned are %v", got)
	}
	x.up(late) // nobody asks with that number any more: what it is answered with isn't taken
	if got := x.teis(); !slices.Equal(got, []int{65}) {
		t.Fatalf("users have %v", got)
	}
}

// P16.2 and P16.3: a user that doubts its TEI keeps it, if the network gave it to that one alone, and loses it, if the network has taken it back.
func TestSiteVerify(t *testing.T) {
	x := newSite(2, never)
	x.want()
	did, _ := x.users[0].Verify()
	x.up(did)
	holdHas(t, x.users[0], holding(64))
	x.lost = func() bool { return true }
	removed, _ := x.network.Remove(64)
	x.down(removed)
	x.lost = never
	did, _ = x.users[0].Verify()
	x.up(did)
	holdHas(t, x.users[0], neither())
	holdHas(t, x.users[1], holding(65))
}

// P16.1 to P16.4: also with messages lost, no two users with numbers of their own have one TEI, and the network has assigned all that they have; an audit of which nothing is lost leaves just those.
func TestSiteLoses(t *testing.T) {
	chance := rand.New(rand.NewSource(161))
	for range 30 {
		x := newSite(9, func() bool { return chance.Intn(3) == 0 })
		x.want()
		teis := x.teis()
		if len(slices.Compact(slices.Clone(teis))) != len(teis) {
			t.Fatalf("users have %v", teis)
		}
		for _, tei := range teis {
			if !slices.Contains(x.network.List(), tei) {
				t.Fatalf("users have %v, of %v", teis, x.network.List())
			}
		}
		x.lost = never
		x.audit()
		if got := x.network.List(); !slices.Equal(got, teis) || !slices.Equal(x.teis(), teis) {
			t.Fatalf("users have %v, of %v, want %v", x.teis(), got, teis)
		}
	}
}

// Rule 7: what a user answers doesn't come of messages that went to another one, which drew the same number.
func TestMessagesApart(t *testing.T) {
	a, b := behind(3, "want"), behind(3, "want")
	other := user.New(3, draw.New(0, 1001))
	for _, step := range []string{"Assigned/1001/64", "CheckRequest/0/127", "Remove/0/64"} {
		got := a.user.Message(message(step))
		other.Message(message(step))
		other.Message(teimsg.Message{Type: teimsg.Remove, Ai: 127})
		if want := b.user.Message(message(step)); !slices.Equal(got, want) {
			t.Fatalf("%s: %v, want %v", step, got, want)
		}
	}
	holdSame(t, a, b, "apart")
}
