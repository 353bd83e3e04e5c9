package mux_test

import (
	"math"
	"math/rand"
	"slices"
	"testing"

	"lapwing/addr"
	"lapwing/api"
	"lapwing/mux"
)

// words is a mux by the chapter's words: who has which link, as a row in which they joined.
type words struct {
	takes int
	had   []holder
}

type holder struct {
	l  addr.Link
	id int
}

func wordsOf(most int) *words {
	w := &words{takes: most}
	if most < 1 {
		w.takes = 1
	}
	if most > mostLinks {
		w.takes = mostLinks
	}
	return w
}

func (w *words) join(l addr.Link, id int) api.Errno {
	switch {
	case l.SAPI < 0 || l.SAPI > lastSAPI || l.TEI < 0 || l.TEI > lastTEI:
		return api.ErrArg
	case slices.ContainsFunc(w.had, func(h holder) bool { return h.l == l }):
		return api.ErrThere
	case len(w.had) == w.takes:
		return api.ErrFull
	}
	w.had = append(w.had, holder{l, id})
	return api.OK
}

// take: how many such there were; none of them is there any more.
func (w *words) take(such func(holder) bool) int {
	had := len(w.had)
	w.had = slices.DeleteFunc(w.had, such)
	return had - len(w.had)
}

func (w *words) route(l addr.Link) []int {
	var out []int
	for _, h := range w.had {
		if (h.l == l || l.TEI == broadcast && h.l.SAPI == l.SAPI) && !slices.Contains(out, h.id) {
			out = append(out, h.id)
		}
	}
	slices.Sort(out)
	return out
}

// links: all links that there may be are gone through, in order.
func (w *words) links(id int) []addr.Link {
	var out []addr.Link
	for sapi := range lastSAPI + 1 {
		for tei := range lastTEI + 1 {
			if slices.Contains(w.had, holder{link(sapi, tei), id}) {
				out = append(out, link(sapi, tei))
			}
		}
	}
	return out
}

// someOf: one of them, picked by chance.
func someOf(chance *rand.Rand, all []int) int { return all[chance.Intn(len(all))] }

// holdCall: does a call, picked by chance, answer as the words do?
func holdCall(t *testing.T, m *mux.Mux, w *words, chance *rand.Rand, l addr.Link, id int) {
	t.Helper()
	switch chance.Intn(12) {
	case 0, 1:
		holdLeave(t, m, w.take(func(h holder) bool { return h.l == l }) == 1, l)
	case 2:
		if chance.Intn(4) == 0 {
			holdDrop(t, m, id, w.take(func(h holder) bool { return h.id == id }))
		}
	case 3:
		bad := link(someOf(chance, badSAPIs), l.TEI)
		holdJoin(t, m, w.join(bad, id), id, bad)
	case 4:
		bad := link(l.SAPI, someOf(chance, badTEIs))
		holdJoin(t, m, w.join(bad, id), id, bad)
		holdRoute(t, m, bad, w.route(bad)...)
	default:
		holdJoin(t, m, w.join(l, id), id, l)
	}
}

// P17.1 to P17.3: long rows of calls against the chapter's words, in muxes of few links and of many, with few SAPIs, TEIs and ids, so that they meet.
func TestWords(t *testing.T) {
	chance := rand.New(rand.NewSource(17))
	sapis, teis := []int{0, 1, 16, 62, 63}, []int{0, 1, 9, 10, 63, 64, 65, 100, 125, 126}
	its := []int{math.MinInt, -10, -9, 0, 9, 10, math.MaxInt}
	for _, most := range []int{-1, 0, 1, 2, 3, 5, 10, 20, 30, 49, 50, 51, 128, 129, math.MaxInt} {
		m, w := mux.New(most), wordsOf(most)
		for range 400 {
			l, id := link(someOf(chance, sapis), someOf(chance, teis)), someOf(chance, its)
			holdCall(t, m, w, chance, l, id)
			all := link(l.SAPI, broadcast)
			holdRoute(t, m, all, w.route(all)...)
			holdRoute(t, m, l, w.route(l)...)
			holdLinks(t, m, id, w.links(id)...)
		}
	}
}

// P17.1 to P17.3: likewise among all links, so that a mux of many is filled up.
func TestWordsOfMany(t *testing.T) {
	chance := rand.New(rand.NewSource(171))
	for range 20 {
		m, w := mux.New(mostLinks), wordsOf(mostLinks)
		for range 500 {
			l, id := link(chance.Intn(lastSAPI+1), chance.Intn(lastTEI+1)), someOf(chance, ids)
			holdJoin(t, m, w.join(l, id), id, l)
		}
		if len(w.had) != mostLinks {
			t.Fatalf("%d links are had", len(w.had))
		}
		had := map[addr.Link]int{}
		for _, h := range w.had {
			had[h.l] = h.id
		}
		holdHas(t, m, had)
	}
}
