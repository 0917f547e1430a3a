package verdict_test

import (
	"math"
	"slices"
	"testing"

	"verdict/api"
	"verdict/verdict"
)

func TestP5Judge(t *testing.T) {
	for _, c := range []struct {
		f    string
		u    []int
		want int
	}{
		{"Gp", []int{1, 1}, 0}, {"Gp", []int{1, 0}, 2}, {"Fp", []int{0}, 0}, {"Fp", []int{0, 1}, 1},
		{"(pUq)", []int{1}, 0}, {"(pUq)", []int{1, 2}, 1}, {"(pUq)", []int{1, 0}, 2},
		{"GFp", nil, 0}, {"GFp", []int{1, 1, 1}, 0}, {"GFp", []int{0, 1, 0}, 0},
		{"(p|!p)", nil, 1}, {"(p|!p)", []int{}, 1}, {"(Gp&F!p)", nil, 2}, {"Xp", nil, 0}, {"Xp", []int{7}, 0}, {"Xp", []int{0, 1}, 1}, {"Xp", []int{1, 0}, 2},
		{"1", nil, 1}, {"0", nil, 2}, {"p", nil, 0}, {"p", []int{1}, 1}, {"p", []int{0, 1}, 2}, {"r", []int{4}, 1}, {"r", []int{3}, 2},
		// Nothing that was put off for ever makes these true or false: it is known at once.
		{"(GFp|FG!p)", nil, 1}, {"(GFp&FG!p)", nil, 2}, {"(pU0)", nil, 2}, {"(pR1)", nil, 1}, {"G(p&F!p)", nil, 2}, {"F(p|G!p)", nil, 1}, {"(GpUF!p)", nil, 0}, {"(GpU!p)", []int{1, 0}, 2}, {"(GpU!p)", []int{0}, 1},
		{"(Gp|Gq)", []int{1, 3, 1}, 0}, {"(Gp|Gq)", []int{1, 2}, 2}, {"(Fp&Fq)", []int{1, 0}, 0}, {"(Fp&Fq)", []int{1, 0, 2}, 1},
		{"(qRp)", []int{1, 1}, 0}, {"(qRp)", []int{1, 3}, 1}, {"(qRp)", []int{1, 2}, 2}, {"(0Rp)", []int{3, 3}, 0}, {"(pRp)", []int{1}, 1}, {"(pRp)", []int{6}, 2},
		{"XXXXXXXp", []int{1, 1, 1, 1, 1, 1, 1}, 0}, {"XXXXXXXp", []int{0, 0, 0, 0, 0, 0, 0, 1}, 1}, {"XXXXXXXp", []int{1, 1, 1, 1, 1, 1, 1, 0}, 2},
	} {
		v, e := verdict.Judge(c.f, c.u)
		if v != c.want || e != api.OK {
			t.Errorf("P5: Judge(%q, %v) = %d, %d, want %d", c.f, c.u, v, e, c.want)
		}
	}
}

func TestP5LongestWords(t *testing.T) {
	ones := slices.Repeat([]int{1}, 40)
	late := slices.Clone(ones)
	late[39] = 0
	found := make([]int, 40)
	found[39] = 1
	for _, c := range []struct {
		f    string
		u    []int
		want int
	}{
		{"Gp", ones, 0}, {"Gp", late, 2}, {"Fp", make([]int, 40), 0}, {"Fp", found, 1}, {"(pUq)", ones, 0}, {"(pUq)", late, 2}, {"(pU!p)", late, 1}, {"FGp", ones, 0}, {"FGp", late, 0}, {"XF!p", late, 1}, {"F(p&X!p)", ones, 0}, {"F(p&X!p)", late, 1}, {"F(p&XX!p)", late, 1}, {"F(!p&XXp)", late, 0}, {"G(!p|XXp)", late, 2}, {"G(!p|XXXp)", append(slices.Clone(ones[:36]), 1, 1, 1, 0), 2}, {"1", ones, 1}, {"0", ones, 2},
	} {
		v, e := verdict.Judge(c.f, c.u)
		if v != c.want || e != api.OK {
			t.Errorf("P5: Judge(%q, %v) = %d, %d, want %d", c.f, c.u, v, e, c.want)
		}
	}
}

func TestP5Errors(t *testing.T) {
	wrong := append(make([]int, 40), 8)
	for _, c := range []struct {
		f string
		u []int
		e api.Errno
	}{
		{"1", make([]int, 41), api.ErrWord}, {"1", wrong, api.ErrWord}, {"0", wrong, api.ErrWord}, {"1", append(wrong, -1), api.ErrWord}, {"1", make([]int, 1000000), api.ErrWord},
		{"1", wrong[1:], api.ErrLetter}, {"1", []int{8}, api.ErrLetter}, {"1", []int{-1}, api.ErrLetter}, {"0", []int{0, 7, 8, 0}, api.ErrLetter}, {"1", []int{math.MaxInt}, api.ErrLetter}, {"1", []int{math.MinInt}, api.ErrLetter}, {"1", []int{256}, api.ErrLetter}, {"1", []int{1 << 32}, api.ErrLetter}, {"p", []int{1, 9}, api.ErrLetter},
	} {
		v, e := verdict.Judge(c.f, c.u)
		if v != 0 || e != c.e {
			t.Errorf("P5: Judge(%q, %v) = %d, %d, want 0, %d", c.f, c.u, v, e, c.e)
		}
	}
	for _, c := range wrongFormulas {
		for _, u := range [][]int{nil, {0}, {9}, wrong} {
			v, e := verdict.Judge(c.f, u)
			if v != 0 || e != c.e {
				t.Errorf("P1: Judge(%.30q, %v) = %d, %d, want 0, %d", c.f, u, v, e, c.e)
			}
		}
	}
}

// known looks for endless words that begin with u, and tells the verdict as the document does, were there no others.
func known(f string, u []int, stems, loops [][]int) int {
	some, all := false, true
	for _, stem := range stems {
		for _, loop := range loops {
			y, _ := verdict.Holds(f, append(slices.Clone(u), stem...), loop)
			some, all = some || y, all && y
			if some && !all {
				return api.Unknown
			}
		}
	}
	if all {
		return api.True
	}
	return api.False
}

func TestP5SmallFormulasOnShortWords(t *testing.T) {
	var short, ends [][]int
	for length := 0; length <= 2; length++ {
		short = append(short, words(length)...)
	}
	for length := 0; length <= 3; length++ {
		ends = append(ends, words(length)...)
	}
	loops := words(1)
	for _, f := range small() {
		for _, u := range short {
			want := known(f, u, ends, loops)
			v, e := verdict.Judge(f, u)
			if v != want || e != api.OK {
				t.Fatalf("P5: Judge(%q, %v) = %d, %d, want %d", f, u, v, e, want)
			}
		}
	}
}

// TestP5ThrownFormulas: of a word with a settled verdict no way to go on may tell otherwise; of one without, there must be one of each kind.
func TestP5ThrownFormulas(t *testing.T) {
	d := dice(5)
	seen := [3]int{}
	for n := 0; n < 3000; n++ {
		f := d.formula(1 + d.throw(8))
		u := d.word(d.throw(8))
		if d.throw(10) == 0 {
			u = d.word(33)
		}
		v, e := verdict.Judge(f, u)
		if e != api.OK {
			t.Fatalf("P5: Judge(%q, %v): error %d", f, u, e)
		}
		seen[v]++
		some, all := false, true
		for tries := 0; tries < 100 || v == api.Unknown && tries < 100000 && (!some || all); tries++ {
			y, _ := verdict.Holds(f, append(slices.Clone(u), d.word(d.throw(8))...), d.word(1+d.throw(4)))
			some, all = some || y, all && y
		}
		if some != (v != api.False) || all != (v == api.True) {
			t.Fatalf("P5: Judge(%q, %v) = %d, but it holds of some word that begins so: %v, of all: %v", f, u, v, some, all)
		}
	}
	if seen[0] < 100 || seen[1] < 100 || seen[2] < 100 {
		t.Errorf("the thrown formulas are too much alike: %v", seen)
	}
}

func TestP2JudgeWritesNothing(t *testing.T) {
	room := make([]int, 60)
	for i := range room {
		room[i] = i * 3 % 8
	}
	before := slices.Clone(room)
	for _, f := range []string{"p", "(pUq)", "G(!p|XFq)", "XXXXp", "pq"} {
		for _, u := range [][]int{room[:0], room[5:20], room[3:43], room[:50]} {
			first, e1 := verdict.Judge(f, u)
			verdict.Judge("(qRp)", []int{1, 2, 3})
			again, e2 := verdict.Judge(f, slices.Clone(u))
			if first != again || e1 != e2 {
				t.Errorf("P2: Judge(%q, %v) answers %d, %d and then %d, %d", f, u, first, e1, again, e2)
			}
			if !slices.Equal(room, before) {
				t.Fatalf("P2: Judge(%q, ...) wrote into what it was handed", f)
			}
		}
	}
}
