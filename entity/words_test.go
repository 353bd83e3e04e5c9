package entity_test

import (
	"math/rand"
	"slices"
	"strconv"
	"strings"
	"testing"

	"lapwing/api"
	"lapwing/ctrl"
	"lapwing/entity"
	"lapwing/flow"
	"lapwing/frame"
)

// sentences are the chapter's, in short: what an entity does, in each state, when that is asked of it, comes, or is over. What isn't in here is ErrState, or nothing.
//
// A = behind a response stands for F as P; =Open is the state from then on; other words are words below, or done by word.
var sentences = map[string]string{
	"Unassigned est": "TEI =AwaitLink", "AwaitTEI est": "=AwaitLink", "AwaitLink est": "", "Assigned est": "asked call",
	"Connecting est": "empty asked", "Open est": "empty asked call", "Recovery est": "empty asked call",

	"Assigned rel": "RC", "Open rel": "empty release", "Recovery rel": "empty release",

	"Assigned cSABME": "rUA= EI open", "Assigned cDISC": "rDM=", "Assigned rUAp": "E:C", "Assigned rUA": "E:D", "Assigned rDM": "asked call",

	"Connecting cSABME": "rUA=", "Connecting cDISC": "rDM=", "Connecting rUA": "E:D", "Connecting rUAp": "connected unasked open", "Connecting rDMp": "RI end",

	"Releasing cSABME": "rDM=", "Releasing cDISC": "rUA=", "Releasing rUA": "E:D", "Releasing rUAp": "RC end", "Releasing rDMp": "RC end",

	"Open cSABME": "rUA= E:F lost open", "Open cDISC": "rUA= RI end", "Open rUAp": "E:C", "Open rUA": "E:D",
	"Open rDMp": "E:B anew", "Open rDM": "E:E anew", "Open rFRMR": "E:K anew",

	"Recovery cSABME": "rUA= E:F lost open", "Recovery cDISC": "rUA= RI end", "Recovery rUAp": "E:C", "Recovery rUA": "E:D",
	"Recovery rDMp": "E:B anew", "Recovery rDM": "E:E anew", "Recovery rFRMR": "E:K anew",

	"Connecting T200": "more cSABMEp +200", "Connecting T200 last": "E:G RI end",
	"Releasing T200": "more cDISCp +200", "Releasing T200 last": "E:H RC end",
	"Open T200": "untried inquire =Recovery", "Open T203": "untried inquire =Recovery",
	"Recovery T200": "more inquire", "Recovery T200 last": "E:I anew",

	"Open RR": "count", "Open RNR": "-203 +200", "Open REJ": "-200 +203 back",
	"Recovery RR": "-200 +203 back =Open", "Recovery RNR": "+200 back =Open", "Recovery REJ": "-200 +203 back =Open",

	"Next": "answer=", "Wrong": "rREJ=", "Again": "answerP", "Busy": "answerP",

	// The words of the layer.
	"call": "untried cSABMEp -203 +200 =Connecting", "anew": "unasked call", "open": "reset -200 +203 =Open on",
	"release": "untried cDISCp -203 +200 =Releasing", "end": "empty -200 -203 =Assigned", "inquire": "report +200",
}

// words is an entity as the chapter's words have it. Its numbers are layer 13's.
type words struct {
	view   entity.View // but for Units and Flow
	tries  int
	units  []string
	flow   *flow.Flow
	final  bool // F as P
	counts int  // what Ack told
	told   string
}

func (w *words) now() entity.View {
	v := w.view
	v.Units, v.Flow = len(w.units), w.flow.View()
	return v
}

// do: all of a sentence.
func (w *words) do(sentence string) {
	for _, word := range strings.Fields(sentence) {
		if more, some := sentences[word]; some {
			w.do(more)
			continue
		}
		w.word(word)
	}
}

// timer: whether the timer of +200 or -203 runs.
func (w *words) timer(word string) *bool {
	if word[1:] == "200" {
		return &w.view.T200
	}
	return &w.view.T203
}

func (w *words) word(word string) {
	name, _, _ := strings.Cut(word, ":")
	_, plain := kinds[name]
	switch {
	case plain:
		w.told += " " + word
	case word[0] == '=':
		w.view.State = entity.State(slices.Index(states, word[1:]))
	case word[0] == '+':
		*w.timer(word) = true
		w.told += " " + word
	case word[0] == '-':
		if *w.timer(word) {
			*w.timer(word) = false
			w.told += " " + word
		}
	case word[0] == 'c' && word[1] < 'a' || word[0] == 'r' && word[1] < 'a':
		w.send(word)
	default:
		w.change(word)
	}
}

// send: a frame, with F as P behind =, and with N(R).
func (w *words) send(word string) {
	word, as := strings.CutSuffix(word, "=")
	word, with := strings.CutSuffix(word, "p")
	if k := word[1:]; k == "RR" || k == "RNR" || k == "REJ" {
		word += strconv.Itoa(w.flow.View().VR)
	}
	if with || as && w.final {
		word += "p"
	}
	w.told += " " + word
}

// report: RNR or RR, of which the rest is said.
func (w *words) report(before, behind string) {
	if w.flow.View().Own {
		w.send(before + "RNR" + behind)
	} else {
		w.send(before + "RR" + behind)
	}
}

func (w *words) change(word string) {
	switch v := w.flow.View(); word {
	case "asked", "unasked":
		w.view.Asked = word == "asked"
	case "untried":
		w.view.Tries = 0
	case "more":
		w.view.Tries++
	case "empty":
		w.flow.Clear()
	case "reset":
		w.flow.Reset()
	case "back":
		w.flow.Back()
	case "lost":
		if v.Sent > 0 {
			w.do("empty EI")
		}
	case "connected":
		if w.view.Asked {
			w.do("EC")
		} else {
			w.do("lost")
		}
	case "answer=":
		w.report("r", "=")
	case "answerP":
		if w.final {
			w.report("r", "p")
		}
	case "report":
		w.report("c", "p")
	case "count":
		if v.VA == v.VS {
			w.do("-200 +203")
		} else if w.counts > 0 {
			w.do("+200")
		}
	case "on":
		w.on()
	default:
		panic(word)
	}
}

// on: it goes on.
func (w *words) on() {
	for w.view.State == entity.Open {
		ns, s, some := w.flow.Take()
		if !some {
			return
		}
		w.told += " cI" + strconv.Itoa(ns) + "/" + strconv.Itoa(w.flow.View().VR) + ":" + s
		if !w.view.T200 {
			w.do("-203 +200")
		}
	}
}

func (w *words) linked() bool {
	return w.view.State == entity.Open || w.view.State == entity.Recovery
}

// step: what one step tells, and its error.
func (w *words) step(step string) (string, api.Errno) {
	w.told = ""
	name, data, _ := strings.Cut(step, ":")
	bad := api.OK
	_, asked := asks[name]
	switch {
	case asked:
		bad = w.ask(name, data)
	case step[0] == 'A':
		bad = w.assign(number(step[1:]))
	case step == "X":
		bad = w.remove()
	case step[0] == 'T':
		w.over(step)
	case w.view.TEI >= 0:
		w.come(step)
	}
	return w.told, bad
}

func (w *words) sentence(step string) (string, bool) {
	s, some := sentences[states[w.view.State]+" "+step]
	return s, some
}

func (w *words) ask(name, data string) api.Errno {
	switch name {
	case "d":
		if !w.linked() && (w.view.State != entity.Connecting || w.view.Asked) {
			return api.ErrState
		}
		bad := w.flow.Push(data)
		w.on()
		return bad
	case "u":
		return w.unit(data)
	case "busy", "ready":
		if !w.linked() {
			return api.ErrState
		}
		if w.flow.SetOwn(name == "busy") {
			w.report("r", "")
		}
		return api.OK
	}
	s, some := w.sentence(name)
	if !some {
		return api.ErrState
	}
	w.do(s)
	return api.OK
}

func (w *words) unit(data string) api.Errno {
	if w.view.TEI >= 0 {
		w.told += " cUI:" + data
		return api.OK
	}
	if len(w.units) == maxQueue {
		return api.ErrFull
	}
	w.units = append(w.units, data)
	if w.view.State == entity.Unassigned {
		w.do("=AwaitTEI TEI")
	}
	return api.OK
}

func (w *words) assign(tei int) api.Errno {
	if w.view.TEI >= 0 {
		return api.ErrThere
	}
	w.view.TEI = tei
	for _, u := range w.units {
		w.told += " cUI:" + u
	}
	w.units = nil
	calls := w.view.State == entity.AwaitLink
	w.do("=Assigned")
	if calls {
		w.do("asked call")
	}
	return api.OK
}

func (w *words) remove() api.Errno {
	if w.view.State == entity.Unassigned {
		return api.ErrNone
	}
	w.do("empty -200 -203")
	w.units = nil
	switch w.view.State {
	case entity.AwaitLink, entity.Connecting, entity.Open, entity.Recovery:
		w.do("RI")
	case entity.Releasing:
		w.do("RC")
	}
	w.view.TEI = -1
	w.do("=Unassigned")
	return api.OK
}

// over: a timer is.
func (w *words) over(timer string) {
	if runs := w.timer(timer); !*runs {
		return
	} else {
		*runs = false
	}
	s, some := w.sentence(timer + " last")
	if !some || w.view.Tries != w.tries {
		s, _ = w.sentence(timer)
	}
	w.do(s)
}

func (w *words) come(step string) {
	f := frameOf(step)
	w.final = f.PF
	switch {
	case f.Kind == ctrl.UI:
		w.told += " U:" + f.Info
	case !f.Kind.Numbered():
		s, some := w.sentence(name(f))
		if !some && (f.Command || f.Kind == ctrl.FRMR) { // of these P/F tells nothing
			f.PF = false
			s, _ = w.sentence(name(f))
		}
		w.do(s)
	case !w.linked():
	case f.Kind == ctrl.I:
		got := w.flow.Come(f.NS)
		if got == flow.Next {
			w.told += " D:" + f.Info
		}
		w.do([]string{"Next", "Wrong", "Again", "Busy"}[got])
		if w.acks(f.NR) && w.view.State == entity.Open {
			if !w.flow.View().Peer {
				w.do("count")
			}
			w.do("on")
		}
	default:
		w.reports(f)
	}
}

// reports: RR, RNR, or REJ comes.
func (w *words) reports(f frame.Frame) {
	if f.Command {
		w.do("answerP")
	} else if f.PF && w.view.State == entity.Open {
		w.do("E:A")
	}
	w.flow.SetPeer(f.Kind == ctrl.RNR)
	if w.acks(f.NR) && (w.view.State == entity.Open || !f.Command && f.PF) {
		s, _ := w.sentence(f.Kind.Name())
		w.do(s + " on")
	}
}

// acks: does N(R) have no error? Else it calls anew.
func (w *words) acks(nr int) bool {
	n, bad := w.flow.Ack(nr)
	if bad != api.OK {
		w.do("E:J anew")
		return false
	}
	w.counts = n
	return true
}

// chanceStep: a step picked by chance, so that links are mostly made, and numbers mostly right. The n-th one.
func chanceStep(v entity.View, n int, chance *rand.Rand) string {
	switch x := chance.Intn(100); {
	case v.TEI < 0 && x < 90:
		return []string{"est", "u:" + strconv.Itoa(n), "X", "A" + strconv.Itoa(chance.Intn(lastTEI+1))}[chance.Intn(4)]
	case x < 3:
		return []string{"rel", "X", "A64", "est", "est"}[chance.Intn(5)]
	case v.State == entity.Assigned && x < 40:
		return "est"
	case x < 6:
		return []string{"busy", "ready"}[chance.Intn(2)]
	case x < 8:
		return "u:" + strconv.Itoa(n)
	case x < 35:
		return "d:" + strconv.Itoa(n)
	case x < 45:
		return []string{"T200", "T200", "T203"}[chance.Intn(3)]
	case (v.State == entity.Connecting || v.State == entity.Releasing) && x < 70:
		return "rUAp"
	case x < 52:
		return chanceFrame(chance) + []string{"", "p"}[chance.Intn(2)]
	}
	return chanceNumbered(v, n, chance)
}

// chanceFrame: one without numbers.
func chanceFrame(chance *rand.Rand) string {
	return []string{"cSABME", "cDISC", "rUA", "rDM", "cUI", "rFRMR"}[chance.Intn(6)]
}

func chanceNumbered(v entity.View, n int, chance *rand.Rand) string {
	way := (v.Flow.VS - v.Flow.VA + modulus) % modulus
	nr := v.Flow.VA + chance.Intn(way+1)
	if chance.Intn(100) == 0 {
		nr += chance.Intn(modulus)
	}
	ns := v.Flow.VR
	if chance.Intn(5) == 0 {
		ns += chance.Intn(3)
	}
	numbers := strconv.Itoa(nr%modulus) + []string{"", "p"}[chance.Intn(2)]
	if chance.Intn(3) == 0 {
		return "cI" + strconv.Itoa(ns%modulus) + "/" + numbers + ":" + strconv.Itoa(n)
	}
	return []string{"c", "r"}[chance.Intn(2)] + []string{"RR", "RR", "RNR", "REJ"}[chance.Intn(4)] + numbers
}

// P14.1 to P14.7: long rows of steps against the chapter's words.
func TestWords(t *testing.T) {
	chance := rand.New(rand.NewSource(14))
	met := map[string]int{}
	for round := range 500 {
		c := entity.Config{K: []int{1, 2, 3, 7, 127}[round%5], N200: 1 + round%3}
		e := entity.New(c)
		w := &words{view: entity.View{State: entity.Unassigned, TEI: -1}, tries: c.N200, flow: flow.New(c.K, maxQueue)}
		for n := range 1000 {
			was := e.View()
			step := chanceStep(was, n, chance)
			if strings.Contains(step, "FRMR") {
				step += ":12345"
			}
			told, want := w.step(step)
			got, bad := do(e, step)
			if tei := max(was.TEI, e.View().TEI); !slices.Equal(got, effects(tei, told)) || bad != want || e.View() != w.now() {
				t.Fatalf("%s, %q tells %+v, %v, want %q, %v, and is %s, want %s", show(was), step, got, bad, told, want, show(e.View()), show(w.now()))
			}
			met[states[was.State]]++
		}
	}
	for _, state := range states[1:] {
		if met[state] < 100 {
			t.Errorf("the state %s was met %d times", state, met[state])
		}
	}
}
