package verdict_test

import (
	"slices"
	"testing"

	"verdict/api"
	"verdict/verdict"
)

// kind writes what a formula is: s safe, c cosafe, l live.
func kind(k api.Class) string {
	s := ""
	if k.Safe {
		s += "s"
	}
	if k.Cosafe {
		s += "c"
	}
	if k.Live {
		s += "l"
	}
	return s
}

func wantKinds(t *testing.T, want string, fs ...string) {
	t.Helper()
	for _, f := range fs {
		k, e := verdict.Class(f)
		if kind(k) != want || e != api.OK {
			t.Errorf("P8: Class(%q) = %q, %d, want %q", f, kind(k), e, want)
		}
	}
}

// A formula that is safe and live is true of every word, and so it is cosafe: there are no more kinds than these.
func TestP8Class(t *testing.T) {
	wantKinds(t, "s", "Gp", "(pRq)", "!Fp", "(Gp|Gq)", "(p&Gq)", "(p|Gq)", "G(!p|Xq)", "(GpRq)", "XGp", "!(pUq)", "G(p&GXq)", "(0Rr)", "G!(p&Xq)", "(pRGq)", "((pRq)Rr)", "((p|Xp)&Gq)")
	wantKinds(t, "c", "(pUq)", "!(pRq)", "(p&Fq)", "X(pUq)", "(pUXq)", "((pUq)Ur)", "(pU(qUr))", "((pUq)&Fr)", "(p&(1Uq))")
	wantKinds(t, "l", "GFp", "FGp", "G(!p|Fq)", "(Gp|Fq)", "(p|GFq)", "F(pRq)", "(GFp|FGq)", "(GFp&FGq)", "XGFp", "!GFp", "(Fp&GFq)", "(FpRFq)", "FGFGp", "(Fp|Gq)")
	wantKinds(t, "sc", "p", "!p", "0", "Xp", "XXXp", "(p&q)", "(p|Xq)", "(p&!p)", "(Gp&F!p)", "(GFp&FG!p)", "!1", "G0", "F0", "(pU0)", "(pRp)", "(qUq)", "(0Up)", "(1Rp)", "G(p&F!p)", "G(p&X!p)")
	wantKinds(t, "cl", "Fp", "!Gp", "F(p&X!p)", "(Fp&Fq)", "(Fp|Fq)", "XFp", "(p|Fq)", "(1Ur)", "FXp", "F(pUq)", "(Fp&F!p)")
	wantKinds(t, "scl", "1", "!0", "(p|!p)", "(GFp|FG!p)", "(Gp|F!p)", "F1", "G1", "X1", "(pR1)", "(pU1)", "F(p|G!p)", "F(p|X!p)")
	wantKinds(t, "", "(p&GFq)", "(Gp&Fq)", "G(pUq)", "(GpUq)", "(p&FGq)", "X(p&FGq)", "(pUGq)", "(FpRq)", "((Gp|Fq)&r)", "(Gp|(qUr))")
}

func TestP8MachinesTooLargeForWatch(t *testing.T) {
	for _, c := range []struct{ f, want string }{
		{"G(!p|XXXq)", "s"}, {"G(p|XXXXq)", "s"}, {"!F(p&XXXq)", "s"}, {"F(p&XXXq)", "cl"}, {"!G(p|XXXq)", "cl"}, {"XXXXXXp", "sc"}, {"XXXXXXXp", "sc"}, {"(pRXXXXp)", "sc"}, {"(pR(qUXXXp))", "c"}, {"(pUXXXXXq)", "c"}, {"(XXXXp&Fq)", "c"}, {"F(rRXXXq)", "l"}, {"G!(XXXrRp)", ""}, {"(FpRXXXr)", ""},
	} {
		wantKinds(t, c.want, c.f)
		if _, e := verdict.Watch(c.f); e != api.ErrBig {
			t.Errorf("P8: Watch(%q): error %d, but it is meant to be too large", c.f, e)
		}
	}
}

func TestP8Errors(t *testing.T) {
	for _, c := range wrongFormulas {
		k, e := verdict.Class(c.f)
		if k != (api.Class{}) || e != c.e {
			t.Errorf("P8: Class(%.30q) = %q, %d, want error %d", c.f, kind(k), e, c.e)
		}
	}
}

// beginning is a long beginning of an endless word. A verdict that is told once stays, so it is enough to ask for the longest.
func beginning(stem, loop []int) []int {
	u := slices.Clone(stem)
	for i := 0; len(u) < api.MaxWord; i++ {
		u = append(u, loop[i%len(loop)])
	}
	return u
}

// witness leaves of a kind what an endless word does not speak against.
func witness(t *testing.T, f string, k api.Class, stem, loop []int) api.Class {
	t.Helper()
	y, e := verdict.Holds(f, stem, loop)
	v, e2 := verdict.Judge(f, beginning(stem, loop))
	if e != api.OK || e2 != api.OK {
		t.Fatalf("P8: %q, %v, %v: errors %d, %d", f, stem, loop, e, e2)
	}
	if v == api.False {
		k.Live = false
	} else if !y {
		k.Safe = false
	}
	if v != api.True && y {
		k.Cosafe = false
	}
	return k
}

func TestP8SmallFormulasOnShortWords(t *testing.T) {
	stems := append(words(0), words(1)...)
	loops := append(words(1), words(2)...)
	for _, f := range small() {
		want := api.Class{Safe: true, Cosafe: true, Live: true}
		for _, stem := range stems {
			for _, loop := range loops {
				want = witness(t, f, want, stem, loop)
			}
		}
		wantKinds(t, kind(want), f)
	}
}

// TestP8ThrownFormulas: no endless word may speak against what a formula is said to be; against what it is said not to be, there must be one.
func TestP8ThrownFormulas(t *testing.T) {
	d := dice(9)
	seen := map[string]int{}
	for n := 0; n < 1000; n++ {
		f := d.formula(1 + d.throw(8))
		k, e := verdict.Class(f)
		if e != api.OK {
			t.Fatalf("P8: Class(%q): error %d", f, e)
		}
		left := api.Class{Safe: true, Cosafe: true, Live: true}
		for tries := 0; tries < 30 || tries < 20000 && left != k; tries++ {
			left = witness(t, f, left, d.word(d.throw(8)), d.word(1+d.throw(4)))
		}
		if left != k {
			t.Fatalf("P8: Class(%q) = %q, but the words that were looked at leave %q", f, kind(k), kind(left))
		}
		seen[kind(k)]++
	}
	for _, s := range []string{"s", "c", "l", "sc", "cl", "scl", ""} {
		if seen[s] < 10 {
			t.Errorf("the thrown formulas are too much alike: %v", seen)
		}
	}
}

// All states of the machine of a formula are met, so each verdict that it has is told of some word.
func TestP8LiveIsToldByTheMachine(t *testing.T) {
	d := dice(10)
	for n := 0; n < 1500; n++ {
		f := d.formula(1 + d.throw(8))
		m, e := verdict.Watch(f)
		if e != api.OK {
			continue
		}
		k, _ := verdict.Class(f)
		if k.Live == slices.Contains(m.Out, api.False) {
			t.Errorf("P8: Class(%q) = %q, its machine tells %v", f, kind(k), m.Out)
		}
	}
}

func TestP8NotTurnsSafeAndCosafeAbout(t *testing.T) {
	d := dice(11)
	for n := 0; n < 3000; n++ {
		f := d.formula(1 + d.throw(7))
		k, e := verdict.Class(f)
		not, e2 := verdict.Class("!" + f)
		if e != api.OK || e2 != api.OK || k.Safe != not.Cosafe || k.Cosafe != not.Safe {
			t.Errorf("P8: %q is %q, and with ! it is %q", f, kind(k), kind(not))
		}
		if k.Safe && k.Live && !(k.Cosafe && not == api.Class{Safe: true, Cosafe: true}) {
			t.Errorf("P8: %q is %q, and so true of every word, but with ! it is %q", f, kind(k), kind(not))
		}
		next, e := verdict.Class("X" + f)
		if e != api.OK || next != k {
			t.Errorf("P8: %q is %q, and with X it is %q", f, kind(k), kind(next))
		}
	}
}

func TestP2ClassHangsOnNoOtherCall(t *testing.T) {
	texts := []string{"Gp", "Fp", "(p&GFq)", "pq", "G(!p|XXXq)", "1", "XXXXXXXXp"}
	for _, f := range texts {
		k, e := verdict.Class(f)
		for _, g := range texts {
			verdict.Class(g)
			verdict.Watch(g)
			verdict.Judge(g, []int{1, 2})
			again, e2 := verdict.Class(f)
			if again != k || e2 != e {
				t.Errorf("P2: Class(%q) = %q, %d behind %q, and %q, %d at first", f, kind(again), e2, g, kind(k), e)
			}
		}
	}
}
