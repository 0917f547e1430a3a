package verdict_test

import (
	"math"
	"slices"
	"strings"
	"testing"

	"verdict/api"
	"verdict/verdict"
)

func TestP3Size(t *testing.T) {
	for _, c := range []struct {
		f string
		n int
	}{
		{"0", 1}, {"1", 1}, {"p", 1}, {"q", 1}, {"r", 1}, {"!p", 2}, {"X0", 2}, {"F1", 2}, {"Gr", 2},
		{"(p&q)", 3}, {"(p|q)", 3}, {"(pUq)", 3}, {"(pRq)", 3}, {"G(!p|XFq)", 7}, {"G(!p|XXXq)", 8},
		{"!!!!!!!p", 8}, {"(((p&q)Ur)R!0)", 8}, {"(p&(q|(rU!1)))", 8}, {"((pRp)R(pRp))", 7},
	} {
		n, e := verdict.Size(c.f)
		if n != c.n || e != api.OK {
			t.Errorf("P3: Size(%q) = %d, %d, want %d", c.f, n, e, c.n)
		}
	}
}

// wrongFormulas has texts with the error of Size that each must give, by every call that takes a formula.
var wrongFormulas = []struct {
	f string
	e api.Errno
}{
	{strings.Repeat("!", 24) + "p", api.ErrLong}, {strings.Repeat(" ", 25), api.ErrLong}, {strings.Repeat("(", 1000000), api.ErrLong},
	{"((((((p&q)&r)&p)&q)&r)&p)", api.ErrLong},
	{"", api.ErrFormula}, {"p q", api.ErrFormula}, {"pq", api.ErrFormula}, {"(p&q", api.ErrFormula}, {"(p)", api.ErrFormula}, {"(pXq)", api.ErrFormula}, {"!", api.ErrFormula}, {"s", api.ErrFormula},
	{"2", api.ErrFormula}, {"(p&q)r", api.ErrFormula}, {"(p&q)(p&q)", api.ErrFormula}, {"p&q", api.ErrFormula}, {"(p&q&r)", api.ErrFormula}, {"(p&&q)", api.ErrFormula}, {"(!&q)", api.ErrFormula}, {"(p&!)", api.ErrFormula}, {"p!", api.ErrFormula}, {"U", api.ErrFormula}, {"(pUq]", api.ErrFormula}, {"(pu q)", api.ErrFormula}, {"x", api.ErrFormula}, {"p\n", api.ErrFormula}, {"\x00", api.ErrFormula}, {"\xff", api.ErrFormula}, {"p\x00", api.ErrFormula}, {"¬p", api.ErrFormula}, {"(p∧q)", api.ErrFormula},
	{strings.Repeat("!", 24), api.ErrFormula}, {strings.Repeat("(", 24), api.ErrFormula}, {strings.Repeat("p", 24), api.ErrFormula}, {strings.Repeat("X", 22) + "pp", api.ErrFormula}, {strings.Repeat("X", 9) + "p)", api.ErrFormula},
	{strings.Repeat("X", 8) + "p", api.ErrSize}, {strings.Repeat("!", 23) + "p", api.ErrSize}, {"G(!p|XF(qRr))", api.ErrSize}, {"((((p&q)&r)&p)&q)", api.ErrSize}, {"!((((((p&q)&r)&p)&q)&r)0", api.ErrFormula}, {"((p&q)R((q|r)U(p&1)))", api.ErrSize},
}

func TestP3SizeErrors(t *testing.T) {
	for _, c := range wrongFormulas {
		n, e := verdict.Size(c.f)
		if n != 0 || e != c.e {
			t.Errorf("P3: Size(%.30q) = %d, %d, want 0, %d", c.f, n, e, c.e)
		}
	}
}

func TestP3EveryByte(t *testing.T) {
	for b := 0; b < 256; b++ {
		alone := string([]byte{byte(b)})
		want := api.ErrFormula
		if strings.Contains("01pqr", alone) {
			want = api.OK
		}
		if _, e := verdict.Size(alone); e != want {
			t.Errorf("P3: Size(%q): error %d, want %d", alone, e, want)
		}
		want = api.ErrFormula
		if strings.Contains("!XFG", alone) {
			want = api.OK
		}
		if _, e := verdict.Size(alone + "p"); e != want {
			t.Errorf("P3: Size(%q): error %d, want %d", alone+"p", e, want)
		}
		want = api.ErrFormula
		if strings.Contains("&|UR", alone) {
			want = api.OK
		}
		if _, e := verdict.Size("(p" + alone + "q)"); e != want {
			t.Errorf("P3: Size(%q): error %d, want %d", "(p"+alone+"q)", e, want)
		}
	}
}

func TestP4Holds(t *testing.T) {
	for _, c := range []struct {
		f          string
		stem, loop []int
		want       bool
	}{
		{"Fp", []int{0, 0, 1}, []int{0}, true}, {"GFp", []int{0, 0, 1}, []int{0}, false}, {"GFp", []int{}, []int{0, 1}, true}, {"FGp", nil, []int{0, 1}, false},
		{"(pUq)", []int{1, 1, 2}, []int{0}, true}, {"(pUq)", nil, []int{1}, false}, {"(qRp)", nil, []int{1}, true}, {"XXp", []int{0}, []int{0, 1}, true},
		{"0", nil, []int{7}, false}, {"1", nil, []int{0}, true},
		{"(pUq)", []int{2}, []int{0}, true}, {"(pUq)", []int{0, 2}, []int{2}, false}, {"(qRp)", []int{3}, []int{0}, true}, {"(qRp)", []int{2}, []int{3}, false}, {"(qRp)", []int{1, 1, 0}, []int{3}, false},
		{"Gp", []int{1}, []int{1, 0}, false}, {"Gp", []int{1}, []int{1, 3, 5, 7}, true}, {"Fp", nil, []int{6, 4, 2, 0}, false}, {"Fp", nil, []int{0, 0, 0, 1}, true},
		{"XXXXXXXp", nil, []int{0, 0, 0, 0, 0, 0, 0, 1}, true}, {"XXXXXXXp", nil, []int{1, 0}, false}, {"XXXXXXXp", []int{0}, []int{1, 0}, true},
		{"G(!p|XFq)", nil, []int{1, 0, 2}, true}, {"G(!p|XFq)", []int{2, 2}, []int{1, 0}, false},
	} {
		y, e := verdict.Holds(c.f, c.stem, c.loop)
		if y != c.want || e != api.OK {
			t.Errorf("P4: Holds(%q, %v, %v) = %v, %d, want %v", c.f, c.stem, c.loop, y, e, c.want)
		}
	}
}

func TestP4EveryLetter(t *testing.T) {
	for n := -1; n <= 8; n++ {
		for i, f := range []string{"p", "q", "r"} {
			want, wantErr := n>>i&1 == 1, api.OK
			if n < 0 || n > 7 {
				want, wantErr = false, api.ErrLetter
			}
			y, e := verdict.Holds(f, []int{n}, []int{7 - n&7})
			if y != want || e != wantErr {
				t.Errorf("P4: Holds(%q, [%d], ...) = %v, %d", f, n, y, e)
			}
			y, e = verdict.Holds(f, nil, []int{n})
			if y != want || e != wantErr {
				t.Errorf("P4: Holds(%q, nil, [%d]) = %v, %d", f, n, y, e)
			}
		}
	}
}

func TestP4Errors(t *testing.T) {
	longest, tooLong := make([]int, 40), make([]int, 41)
	wrong := append(make([]int, 40), 8)
	for _, c := range []struct {
		f          string
		stem, loop []int
		e          api.Errno
	}{
		{"1", nil, nil, api.ErrLoop}, {"1", []int{}, []int{}, api.ErrLoop}, {"1", longest, nil, api.ErrLoop}, {"1", wrong, nil, api.ErrLoop}, {"1", []int{-1}, tooLong[:0], api.ErrLoop},
		{"1", longest, longest, api.OK}, {"1", tooLong, longest, api.ErrWord}, {"1", longest, tooLong, api.ErrWord}, {"1", wrong, []int{0}, api.ErrWord}, {"1", nil, wrong, api.ErrWord}, {"1", []int{-1}, tooLong, api.ErrWord}, {"1", tooLong, []int{8}, api.ErrWord}, {"1", make([]int, 1000000), []int{0}, api.ErrWord},
		{"1", []int{0, 7}, []int{7, 0}, api.OK}, {"1", []int{-1}, []int{0}, api.ErrLetter}, {"1", []int{8}, []int{0}, api.ErrLetter}, {"1", []int{0}, []int{-1}, api.ErrLetter}, {"1", []int{0}, []int{8}, api.ErrLetter}, {"1", wrong[1:], []int{0}, api.ErrLetter}, {"1", nil, wrong[1:], api.ErrLetter}, {"1", []int{math.MinInt}, []int{0}, api.ErrLetter}, {"1", nil, []int{math.MaxInt}, api.ErrLetter}, {"1", nil, []int{256}, api.ErrLetter}, {"1", nil, []int{1 << 32}, api.ErrLetter},
	} {
		y, e := verdict.Holds(c.f, c.stem, c.loop)
		if y != (c.e == api.OK) || e != c.e {
			t.Errorf("P4: Holds(%q, %v, %v) = %v, %d, want error %d", c.f, c.stem, c.loop, y, e, c.e)
		}
	}
}

func TestP1TheErrorOfSizeComesFirst(t *testing.T) {
	wrong := append(make([]int, 40), 9)
	for _, c := range wrongFormulas {
		for _, loop := range [][]int{nil, {0}, {9}, wrong} {
			y, e := verdict.Holds(c.f, wrong, loop)
			if y || e != c.e {
				t.Errorf("P1: Holds(%.30q, wrong, %v) = %v, %d, want error %d", c.f, loop, y, e, c.e)
			}
		}
	}
}

func TestP2NothingIsWrittenInto(t *testing.T) {
	room := make([]int, 100)
	for i := range room {
		room[i] = i % 8
	}
	before := slices.Clone(room)
	for _, f := range []string{"p", "(pUq)", "G(!p|XFq)", "(qR!p)", "pq"} {
		for _, loop := range [][]int{room[40:60], room[5:20], room[10:10], room[10:99], room[20:21]} {
			first, e1 := verdict.Holds(f, room[3:12], loop)
			again, e2 := verdict.Holds(f, room[3:12], loop)
			other, e3 := verdict.Holds(f, slices.Clone(room[3:12]), slices.Clone(loop))
			if first != again || first != other || e1 != e2 || e1 != e3 {
				t.Errorf("P2: Holds(%q, %v, %v) answers differently", f, room[3:12], loop)
			}
			if !slices.Equal(room, before) {
				t.Fatalf("P2: Holds(%q, ...) wrote into what it was handed", f)
			}
		}
	}
}

func TestP2CallsDoNotHangOnEachOther(t *testing.T) {
	texts := []string{"p", "", "GFp", "XXXXXXXXp", "(pUq)", "pq"}
	size := make([]int, len(texts))
	sizeErr := make([]api.Errno, len(texts))
	for i, f := range texts {
		size[i], sizeErr[i] = verdict.Size(f)
	}
	for i, f := range texts {
		for _, g := range texts {
			verdict.Size(g)
			verdict.Holds(g, []int{1}, []int{2})
			n, e := verdict.Size(f)
			if n != size[i] || e != sizeErr[i] {
				t.Errorf("P2: Size(%q) = %d, %d behind %q, and %d, %d at first", f, n, e, g, size[i], sizeErr[i])
			}
		}
	}
}
