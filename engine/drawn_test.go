package engine_test

import (
	"math/rand"
	"strconv"
	"strings"
	"testing"

	"mason/api"
)

const (
	haveText = "resource a a { x = 1 } resource a b { after = [a.a] } resource a c {}"
	wantText = "resource a a { x = 2 } resource a d { after = [a.a] } resource a c {}"
)

// ends comes up again, however often it breaks off in between, and builds what is wanted.
func (p *pair) ends(text, history string) {
	p.t.Helper()
	p.breaks(0, 0, 0)
	p.halts(0, false, 0, 0)
	p.refuses(0)
	if !p.m.up {
		must(p.t, "Recover", p.recover(), api.OK)
	}
	must(p.t, "Apply", p.apply(text), api.OK)
	isBuilt(p.t, p.e, text)
	historyIs(p.t, p.e, history)
	calls := p.e.Calls()
	must(p.t, "Apply again", p.apply(text), api.OK)
	callsAre(p.t, p.e, calls)
	p.checkHistory()
}

const wholeHistory = "+a.a +a.b +a.c ~a.a +a.d -a.b"

// stays is how many bytes and changes stay: few and many, among them all places in a Begin.
var stays = [][2]int{{0, 0}, {0, 1}, {0, 2}, {0, 9}, {1, 1}, {12, 1}, {13, 0}, {13, 1}, {14, 3}, {40, 2}, {1000, 0}, {1000, 1}, {1000, 2}, {1000, 9}}

// P14 to P19: at each act of an Apply, then at each act of a Recover, then of another one.
func TestBreakAtEachAct(t *testing.T) {
	for k := 1; k <= 20; k++ {
		for i, first := range stays {
			for again := range 10 {
				second := stays[(i+again+k)%len(stays)]
				for once := range 2 {
					p := newPair(t, api.MaxRoom)
					p.apply(haveText)
					p.breaks(k, first[0], first[1])
					p.apply(wantText)
					p.breaks(again, second[0], second[1])
					p.recover()
					p.breaks((3+again%5)*once, first[0], first[1])
					p.recover()
					p.ends(wantText, wholeHistory)
				}
			}
		}
	}
}

// P13 to P19: at each call, ahead and behind, refused or not; then at each act of a Recover.
func TestHaltAtEachCall(t *testing.T) {
	for k := 1; k <= 4; k++ {
		for bits := range 4 {
			for i, first := range stays {
				for again := range 10 {
					second := stays[(i+again+k)%len(stays)]
					p := newPair(t, api.MaxRoom)
					p.apply(haveText)
					p.halts(k, bits&1 == 1, first[0], first[1])
					if bits&2 == 2 {
						p.refuses(k)
					}
					p.apply(wantText)
					p.breaks(again, second[0], second[1])
					p.recover()
					p.ends(wantText, wholeHistory)
				}
			}
		}
	}
}

// P13 to P19: a call that is refused, and a break at each act of that Apply, and of the Recover.
func TestRefuseAtEachCall(t *testing.T) {
	for k := 1; k <= 4; k++ {
		for at := range 21 {
			for i, stay := range stays {
				p := newPair(t, api.MaxRoom)
				p.apply(haveText)
				p.refuses(k)
				p.breaks(at, stay[0], stay[1])
				p.apply(wantText)
				p.breaks((i+at+k)%9, stay[0], stay[1])
				p.recover()
				p.ends(wantText, wholeHistory)
			}
		}
	}
}

// drawText is a text of resources of which each may need those ahead of it in an order that is drawn, too.
func drawText(r *rand.Rand) string {
	names := strings.Split("abcdefgh", "")
	r.Shuffle(len(names), func(i, j int) { names[i], names[j] = names[j], names[i] })
	names = names[:r.Intn(len(names)+1)]
	var l []string
	for i, name := range names {
		s := "resource k " + name + " {"
		if r.Intn(2) == 0 {
			s += " n = " + strconv.Itoa(r.Intn(2))
		}
		if r.Intn(3) == 0 {
			s += " text = \"" + strings.Repeat("x", r.Intn(21)) + "\" other = \"" + strings.Repeat("y", r.Intn(21)) + "\""
		}
		var after []string
		for _, other := range names[:i] {
			if r.Intn(3) == 0 && len(after) < api.MaxAfter {
				after = append(after, "k."+other)
			}
		}
		l = append(l, s+" after = ["+strings.Join(after, ", ")+"] }")
	}
	r.Shuffle(len(l), func(i, j int) { l[i], l[j] = l[j], l[i] })
	return strings.Join(l, "\n")
}

func draw(r *rand.Rand, l ...int) int { return l[r.Intn(len(l))] }

// act does to a pair something that is drawn.
func (p *pair) act(r *rand.Rand) {
	p.t.Helper()
	keep, names := draw(r, least, -1, 0, 1, 5, 13, 30, 60, 200, most), draw(r, least, -1, 0, 1, 2, 3, most)
	switch r.Intn(12) {
	case 0, 1:
		p.breaks(r.Intn(30), keep, names)
	case 2:
		p.halts(r.Intn(6), r.Intn(2) == 0, keep, names)
	case 3:
		p.refuses(r.Intn(6))
	case 4:
		p.crash(keep, names)
	case 5:
		must(p.t, "Break", p.e.Break(-1, 0, 0), api.ErrArg)
		must(p.t, "Halt", p.e.Halt(-1, true, 0, 0), api.ErrArg)
		must(p.t, "Refuse", p.e.Refuse(-1), api.ErrArg)
	case 6, 7:
		p.recover()
	default:
		p.apply(drawText(r))
	}
}

// P12 to P19: many things in a row, in great and in little room.
func TestDrawn(t *testing.T) {
	for seed := range 400 {
		r := rand.New(rand.NewSource(int64(seed)))
		p := newPair(t, draw(r, api.MinRoom, api.MinRoom, 1300, 2000, api.MaxRoom))
		for range 60 {
			p.act(r)
		}
		p.checkHistory()
	}
}
