package verdict_test

import (
	"fmt"
	"math"
	"slices"
	"strings"
	"testing"

	"verdict/api"
	"verdict/verdict"
)

// show writes a machine as digits: the Outs, and each Next.
func show(m api.Machine) string {
	s := strings.Join(strings.Fields(strings.Trim(fmt.Sprint(m.Out), "[]")), "")
	for _, next := range m.Next {
		s += " " + strings.Join(strings.Fields(strings.Trim(fmt.Sprint(next), "[]")), "")
	}
	return s
}

func TestP6Watch(t *testing.T) {
	for _, c := range []struct{ f, want string }{
		{"Fp", "01 01010101 11111111"}, {"GFp", "0 00000000"}, {"(pUq)", "021 10221022 11111111 22222222"},
		{"0", "2 00000000"}, {"1", "1 00000000"}, {"p", "021 12121212 11111111 22222222"}, {"!p", "012 12121212 11111111 22222222"}, {"r", "021 11112222 11111111 22222222"},
		{"Gq", "02 11001100 11111111"}, {"(p|!p)", "1 00000000"}, {"(GFp&FG!p)", "2 00000000"}, {"FGp", "0 00000000"}, {"XGFp", "0 00000000"}, {"(FGp|GFq)", "0 00000000"},
		// Here states that say different things of the word to come tell the same for ever.
		{"(p&GFq)", "020 12121212 11111111 22222222"}, {"(p|FGq)", "001 12121212 11111111 22222222"}, {"X(p&FGq)", "0020 11111111 23232323 22222222 33333333"},
		{"(qRp)", "021 10121012 11111111 22222222"}, {"XXp", "00021 11111111 22222222 34343434 33333333 44444444"},
		{"G(!p|XXq)", "00002 01010101 23232323 44014401 44234423 44444444"}, {"(p&Xq)", "0201 12121212 11111111 11331133 33333333"},
	} {
		m, e := verdict.Watch(c.f)
		if show(m) != c.want || e != api.OK {
			t.Errorf("P6: Watch(%q) = %s, %d, want %s", c.f, show(m), e, c.want)
		}
	}
}

func TestP6Errors(t *testing.T) {
	for _, c := range []struct {
		f string
		n int
		e api.Errno
	}{
		{"G(!p|XXXq)", 0, api.ErrBig}, {"F(p&XXXq)", 0, api.ErrBig}, {"XXXXXXp", 0, api.ErrBig}, {"XXXXXXXp", 0, api.ErrBig}, {"(pRXXXXp)", 0, api.ErrBig}, {"(pR(qUXXXp))", 0, api.ErrBig},
		{"XXXXXp", 8, api.OK}, {"G(!p|XXq)", 5, api.OK}, {"XXXXXXGFp", 0, api.ErrSize}, {"XXXXXGFp", 1, api.OK}, {"GXXXXXXp", 8, api.OK}, {"GXXXXXp", 7, api.OK}, {"FXXXXXXp", 8, api.OK},
	} {
		m, e := verdict.Watch(c.f)
		if len(m.Out) != c.n || len(m.Next) != c.n || e != c.e {
			t.Errorf("P6: Watch(%q) = %s, %d, want %d states, %d", c.f, show(m), e, c.n, c.e)
		}
	}
	for _, c := range wrongFormulas {
		m, e := verdict.Watch(c.f)
		if len(m.Out) != 0 || len(m.Next) != 0 || e != c.e {
			t.Errorf("P6: Watch(%.30q) = %s, %d, want error %d", c.f, show(m), e, c.e)
		}
	}
}

// pupil finds the machine of a formula from verdicts alone: words behind which the same ends get the same verdicts are one state.
type pupil struct {
	f    string
	ends [][]int
	told map[string]int
}

func (p *pupil) judge(u []int) int {
	key := fmt.Sprint(u)
	v, ok := p.told[key]
	if !ok {
		v, _ = verdict.Judge(p.f, u)
		p.told[key] = v
	}
	return v
}

func join(u, v []int) []int {
	return append(slices.Clone(u), v...)
}

func (p *pupil) row(u []int) string {
	s := ""
	for _, end := range p.ends {
		s += fmt.Sprint(p.judge(join(u, end)))
	}
	return s
}

// guess numbers the rows as they are met. It ends early with more states than there may be.
func (p *pupil) guess() (api.Machine, [][]int) {
	words := [][]int{nil}
	rows := []string{p.row(nil)}
	m := api.Machine{}
	for i := 0; i < len(words) && len(words) <= api.MaxStates; i++ {
		var next []int
		for letter := 0; letter < api.Letters; letter++ {
			u := join(words[i], []int{letter})
			row := p.row(u)
			k := slices.Index(rows, row)
			if k < 0 {
				k = len(rows)
				rows, words = append(rows, row), append(words, u)
			}
			next = append(next, k)
		}
		m.Out = append(m.Out, p.judge(words[i]))
		m.Next = append(m.Next, next)
	}
	return m, words
}

// wrong tells whether the guess gets the verdict on a word wrong, and keeps the ends of such a word.
func (p *pupil) wrong(m api.Machine, u []int) bool {
	at := 0
	for _, letter := range u {
		at = m.Next[at][letter]
	}
	if m.Out[at] == p.judge(u) {
		return false
	}
	for i := range u {
		p.ends = append(p.ends, u[i:])
	}
	return true
}

// mend looks two letters ahead of every state, and at some thrown words.
func (p *pupil) mend(d *dice, m api.Machine, words [][]int) bool {
	for _, u := range words {
		for two := 0; two < 64; two++ {
			if p.wrong(m, join(u, []int{two / 8, two % 8})) {
				return true
			}
		}
	}
	for tries := 0; tries < 40; tries++ {
		if p.wrong(m, d.word(d.throw(12))) {
			return true
		}
	}
	return false
}

// apart lists shortest words on which two machines differ, if there are any.
func apart(one, other api.Machine) [][]int {
	type pair struct{ one, other int }
	type step struct {
		pair
		u []int
	}
	seen := map[pair]bool{{}: true}
	steps := []step{{}}
	var words [][]int
	for i := 0; i < len(steps); i++ {
		s := steps[i]
		if one.Out[s.one] != other.Out[s.other] {
			words = append(words, s.u)
		}
		for letter := 0; letter < api.Letters; letter++ {
			to := pair{one.Next[s.one][letter], other.Next[s.other][letter]}
			if !seen[to] {
				seen[to] = true
				steps = append(steps, step{to, join(s.u, []int{letter})})
			}
		}
	}
	return words
}

// learn guesses until it finds nothing wrong. Words on which the guess differs from the answer of Watch are tried too: the verdict on them tells which of both is wrong.
func (p *pupil) learn(d *dice, m api.Machine) (api.Machine, int) {
	for {
		guess, words := p.guess()
		if len(words) > api.MaxStates {
			return api.Machine{}, len(words)
		}
		better := false
		if len(m.Out) > 0 {
			for _, u := range apart(guess, m) {
				better = better || p.wrong(guess, u)
			}
		}
		if !better && !p.mend(d, guess, words) {
			return guess, len(words)
		}
	}
}

func TestP6MachinesFromVerdictsAlone(t *testing.T) {
	d := dice(6)
	fs := []string{"G(!p|XXXq)", "F(p&XXXq)", "XXXXXp", "XXXXXXp", "(XXp&(FqUr))", "(pRXXp)", "(pRXXXp)", "(pUX(qUXXp))", "F(p&X(q&Xr))", "((pUq)U(qUp))", "(p&GFq)", "GXXXXXXp", "FXXXXXXp", "(pR(qUXXXp))"}
	for len(fs) < 100 {
		fs = append(fs, d.formula(3+d.throw(6)))
	}
	small, large := 0, 0
	for _, f := range fs {
		m, e := verdict.Watch(f)
		p := pupil{f: f, told: map[string]int{}, ends: [][]int{nil, {0}, {7}}}
		want, states := p.learn(&d, m)
		if states > api.MaxStates {
			large++
			if e != api.ErrBig || len(m.Out) != 0 || len(m.Next) != 0 {
				t.Errorf("P6: Watch(%q) = %s, %d, but %d states or more are wanted", f, show(m), e, states)
			}
			continue
		}
		small++
		if e != api.OK || show(m) != show(want) {
			t.Errorf("P6: Watch(%q) = %s, %d, want %s", f, show(m), e, show(want))
		}
	}
	if small < 50 || large < 7 {
		t.Errorf("the formulas are too much alike: %d small, %d large", small, large)
	}
}

func TestP6P7MachinesTellTheVerdicts(t *testing.T) {
	d := dice(7)
	for n := 0; n < 1000; n++ {
		f := d.formula(1 + d.throw(8))
		m, e := verdict.Watch(f)
		if e == api.ErrBig {
			continue
		}
		s, e2 := verdict.Write(m)
		back, e3 := verdict.Read(s)
		if e != api.OK || e2 != api.OK || e3 != api.OK || show(back) != show(m) {
			t.Fatalf("P7: %q: errors %d, %d, %d, written %s, read %s", f, e, e2, e3, show(m), show(back))
		}
		for _, u := range [][]int{nil, d.word(1), d.word(d.throw(8)), d.word(40)} {
			want, _ := verdict.Judge(f, u)
			if v, e := verdict.Run(s, u); v != want || e != api.OK {
				t.Fatalf("P6: the machine of %q tells %d, %d on %v, the verdict is %d", f, v, e, u, want)
			}
		}
	}
}

// single is a machine of one state.
func single(out int, next ...int) api.Machine {
	return api.Machine{Out: []int{out}, Next: [][]int{next}}
}

func TestP7Write(t *testing.T) {
	noughts := []int{0, 0, 0, 0, 0, 0, 0, 0}
	m, _ := verdict.Watch("GFp")
	until, _ := verdict.Watch("(pUq)")
	eight, _ := verdict.Watch("XXXXXp")
	for _, c := range []struct {
		m    api.Machine
		want string
	}{
		{m, "\x01\x00\x00\x00\x00\x00\x00\x00\x00\x00"}, {single(1, noughts...), "\x01\x01\x00\x00\x00\x00\x00\x00\x00\x00"}, {single(2, noughts...), "\x01\x02\x00\x00\x00\x00\x00\x00\x00\x00"},
		{until, "\x03\x00\x01\x00\x02\x02\x01\x00\x02\x02\x02\x01\x01\x01\x01\x01\x01\x01\x01\x01\x02\x02\x02\x02\x02\x02\x02\x02"},
		// A machine need not be the smallest, nor must all its states be met, nor stand in order.
		{api.Machine{Out: []int{0, 0}, Next: [][]int{noughts, noughts}}, "\x02" + strings.Repeat("\x00", 18)},
		{api.Machine{Out: []int{0, 1, 1}, Next: [][]int{{2, 1, 2, 1, 0, 0, 0, 0}, {1, 1, 1, 1, 1, 1, 1, 1}, {2, 2, 2, 2, 2, 2, 2, 2}}}, "\x03\x00\x02\x01\x02\x01\x00\x00\x00\x00\x01\x01\x01\x01\x01\x01\x01\x01\x01\x01\x02\x02\x02\x02\x02\x02\x02\x02"},
		{eight, "\x08\x00" + strings.Repeat("\x01", 8) + "\x00" + strings.Repeat("\x02", 8) + "\x00" + strings.Repeat("\x03", 8) + "\x00" + strings.Repeat("\x04", 8) + "\x00" + strings.Repeat("\x05", 8) + "\x00\x06\x07\x06\x07\x06\x07\x06\x07" + "\x02" + strings.Repeat("\x06", 8) + "\x01" + strings.Repeat("\x07", 8)},
	} {
		s, e := verdict.Write(c.m)
		if s != c.want || e != api.OK {
			t.Errorf("P7: Write(%s) = %q, %d, want %q", show(c.m), s, e, c.want)
		}
		back, e := verdict.Read(c.want)
		if show(back) != show(c.m) || e != api.OK {
			t.Errorf("P7: Read(%q) = %s, %d, want %s", c.want, show(back), e, show(c.m))
		}
	}
}

func TestP7WriteErrors(t *testing.T) {
	noughts := []int{0, 0, 0, 0, 0, 0, 0, 0}
	for _, m := range []api.Machine{
		{}, {Out: []int{}, Next: [][]int{}}, {Out: []int{0}}, {Next: [][]int{noughts}}, {Out: []int{0, 0}, Next: [][]int{noughts}}, {Out: []int{0}, Next: [][]int{noughts, noughts}},
		{Out: make([]int, 9), Next: slices.Repeat([][]int{noughts}, 9)}, {Out: make([]int, 1000000), Next: make([][]int, 1000000)},
		single(0), single(0, noughts[:7]...), single(0, make([]int, 9)...), {Out: []int{0, 0}, Next: [][]int{noughts, nil}},
		single(-1, noughts...), single(3, noughts...), single(256, noughts...), single(math.MinInt, noughts...), single(math.MaxInt, noughts...), single(1<<32, noughts...),
		single(0, 1, 0, 0, 0, 0, 0, 0, 0), single(0, 0, 0, 0, 0, 0, 0, 0, -1), single(0, 0, 0, 0, 256, 0, 0, 0, 0), single(0, 0, 0, 0, 0, math.MinInt, 0, 0, 0), single(0, 0, 0, math.MaxInt, 0, 0, 0, 0, 0), single(0, 0, 0, 1<<32, 0, 0, 0, 0, 0),
		{Out: []int{1, 0}, Next: [][]int{{0, 0, 0, 0, 0, 0, 0, 1}, noughts}}, {Out: []int{2, 0}, Next: [][]int{{1, 0, 0, 0, 0, 0, 0, 0}, noughts}}, {Out: []int{0, 1}, Next: [][]int{noughts, noughts}}, {Out: []int{1, 1}, Next: [][]int{{1, 1, 1, 1, 1, 1, 1, 1}, {1, 1, 1, 1, 1, 1, 1, 1}}},
	} {
		s, e := verdict.Write(m)
		if s != "" || e != api.ErrMachine {
			t.Errorf("P7: Write(%.60s) = %q, %d, want ErrMachine", show(m), s, e)
		}
	}
}

var noMachines = []string{
	"\x01\x03\x00\x00\x00\x00\x00\x00\x00\x00", "\x01\x00\x00\x00\x00\x00\x00\x00\x00\x01", "\x00", "", "\x02\x01\x01\x01\x01\x01\x01\x01\x01\x01\x00\x00\x00\x00\x00\x00\x00\x00\x00",
	"\x01", "\x01\x00\x00\x00\x00\x00\x00\x00\x00", "\x01\x00\x00\x00\x00\x00\x00\x00\x00\x00\x00", "\x02\x00\x00\x00\x00\x00\x00\x00\x00\x00", "\x01\x00\x00\x00\x00\x00\x00\x00\x00\xff", "\x01\xff\x00\x00\x00\x00\x00\x00\x00\x00", "\x01\x00\x00\x00\x00\x00\x00\x00\x00\x00\x00\x00\x00\x00\x00\x00\x00\x00\x00",
	"\x02\x00\x00\x00\x00\x00\x00\x00\x00\x00\x02\x01\x01\x01\x01\x01\x01\x01\x00", "\x02\x00\x00\x00\x00\x00\x00\x00\x00\x02\x02\x01\x01\x01\x01\x01\x01\x01\x01",
	"\x09" + strings.Repeat("\x00", 81), "\x0a" + strings.Repeat("\x00", 90), "\xff" + strings.Repeat("\x00", 255*9), "\x00" + strings.Repeat("\x00", 9), "1000000000", "p", "\x08" + strings.Repeat("\x00", 71) + "\x08", strings.Repeat("\x01", 1000000),
}

func TestP7ReadAndRunErrors(t *testing.T) {
	for _, s := range noMachines {
		m, e := verdict.Read(s)
		if len(m.Out) != 0 || len(m.Next) != 0 || e != api.ErrText {
			t.Errorf("P7: Read(%.30q) = %s, %d, want ErrText", s, show(m), e)
		}
		for _, u := range [][]int{nil, {0}, {8}, {-1}} {
			v, e := verdict.Run(s, u)
			if v != 0 || e != api.ErrText {
				t.Errorf("P1: Run(%.30q, %v) = %d, %d, want ErrText", s, u, v, e)
			}
		}
	}
	for _, s := range []string{"\x01\x00\x00\x00\x00\x00\x00\x00\x00\x00", "\x01\x01\x00\x00\x00\x00\x00\x00\x00\x00", "\x01\x02\x00\x00\x00\x00\x00\x00\x00\x00"} {
		for _, u := range [][]int{{8}, {-1}, {0, 9}, {math.MaxInt}, {0, math.MinInt, 0}, {256}, {1 << 32}, append(make([]int, 100000), 8)} {
			v, e := verdict.Run(s, u)
			if v != 0 || e != api.ErrLetter {
				t.Errorf("P7: Run(%q, %.30v) = %d, %d, want ErrLetter", s, u, v, e)
			}
		}
	}
}

func TestP7Run(t *testing.T) {
	m, _ := verdict.Watch("(pUq)")
	s, _ := verdict.Write(m)
	ones := slices.Repeat([]int{5}, 1000000)
	for _, c := range []struct {
		s    string
		u    []int
		want int
	}{
		{s, nil, 0}, {s, []int{}, 0}, {s, []int{1, 1}, 0}, {s, []int{1, 2}, 1}, {s, []int{1, 4}, 2}, {s, []int{1, 4, 2}, 2}, {s, ones, 0}, {s, append(slices.Clone(ones), 3), 1}, {s, append(slices.Clone(ones), 0, 2), 2}, {s, make([]int, 41), 2},
		{"\x01\x01\x00\x00\x00\x00\x00\x00\x00\x00", nil, 1}, {"\x01\x02\x00\x00\x00\x00\x00\x00\x00\x00", []int{7, 0}, 2},
		// Each letter takes its own way: from state 0 letter k leads to state k.
		{ways, []int{0}, 0}, {ways, []int{1}, 1}, {ways, []int{2}, 2}, {ways, []int{3}, 1}, {ways, []int{4}, 2}, {ways, []int{5}, 1}, {ways, []int{6}, 2}, {ways, []int{7}, 0}, {ways, []int{7, 0}, 0}, {ways, []int{7, 7, 1}, 1}, {ways, []int{0, 0, 6}, 2},
	} {
		v, e := verdict.Run(c.s, c.u)
		if v != c.want || e != api.OK {
			t.Errorf("P7: Run(%q, %.30v) = %d, %d, want %d", c.s, c.u, v, e, c.want)
		}
	}
}

const ways = "\x08\x00\x00\x01\x02\x03\x04\x05\x06\x07" +
	"\x01\x01\x01\x01\x01\x01\x01\x01\x01" + "\x02\x02\x02\x02\x02\x02\x02\x02\x02" + "\x01\x03\x03\x03\x03\x03\x03\x03\x03" + "\x02\x04\x04\x04\x04\x04\x04\x04\x04" +
	"\x01\x05\x05\x05\x05\x05\x05\x05\x05" + "\x02\x06\x06\x06\x06\x06\x06\x06\x06" + "\x00\x07\x01\x02\x03\x04\x05\x06\x00"

func TestP7ThrownBytes(t *testing.T) {
	d := dice(8)
	read := 0
	for n := 0; n < 20000; n++ {
		count := 1 + d.throw(8)
		bytes := []byte{byte(count)}
		for i := 0; i < count; i++ {
			out := d.throw(3)
			bytes = append(bytes, byte(out))
			for letter := 0; letter < 8; letter++ {
				to := i
				if out == 0 {
					to = d.throw(count)
				}
				bytes = append(bytes, byte(to))
			}
		}
		if d.throw(2) == 0 {
			bytes[d.throw(len(bytes))] = byte(d.throw(10))
		}
		m, e := verdict.Read(string(bytes))
		if e != api.OK {
			if e != api.ErrText || len(m.Out) != 0 || len(m.Next) != 0 {
				t.Fatalf("P7: Read(%q) = %s, %d", bytes, show(m), e)
			}
			continue
		}
		read++
		s, e := verdict.Write(m)
		if s != string(bytes) || e != api.OK {
			t.Fatalf("P7: Read and Write make of %q %q, %d", bytes, s, e)
		}
		u := d.word(d.throw(10))
		at := 0
		for _, letter := range u {
			at = m.Next[at][letter]
		}
		if v, e := verdict.Run(s, u); v != m.Out[at] || e != api.OK {
			t.Fatalf("P7: Run(%q, %v) = %d, %d, want %d", s, u, v, e, m.Out[at])
		}
	}
	if read < 5000 {
		t.Errorf("only %d machines were read", read)
	}
}

// lists has all the lists of numbers of some machines.
func lists(ms ...*api.Machine) [][]int {
	var l [][]int
	for _, m := range ms {
		l = append(l, m.Out)
		l = append(l, m.Next...)
	}
	return l
}

func TestP2EveryListIsItsOwn(t *testing.T) {
	s, _ := verdict.Write(api.Machine{Out: []int{0, 2, 1}, Next: [][]int{{1, 0, 2, 2, 1, 0, 2, 2}, {1, 1, 1, 1, 1, 1, 1, 1}, {2, 2, 2, 2, 2, 2, 2, 2}}})
	first, _ := verdict.Watch("(pUq)")
	again, _ := verdict.Watch("(pUq)")
	read, _ := verdict.Read(s)
	reread, _ := verdict.Read(s)
	want := show(first)
	all := lists(&first, &again, &read, &reread)
	for i, l := range all {
		whole := l[:cap(l)]
		old := slices.Clone(whole)
		for k := range whole {
			whole[k] = 77
		}
		for k, other := range all {
			if k != i && slices.Contains(other[:cap(other)], 77) {
				t.Errorf("P2: writing into list %d changes list %d", i, k)
			}
		}
		fresh, _ := verdict.Watch("(pUq)")
		freshRead, _ := verdict.Read(s)
		if show(fresh) != want || show(freshRead) != want {
			t.Errorf("P2: writing into list %d changes what comes out later", i)
		}
		copy(whole, old)
	}
	for _, m := range []api.Machine{first, again, read, reread} {
		rows := m.Next[:cap(m.Next)]
		for k := range rows {
			rows[k] = nil
		}
	}
	fresh, _ := verdict.Watch("(pUq)")
	freshRead, _ := verdict.Read(s)
	if show(fresh) != want || show(freshRead) != want {
		t.Error("P2: writing into the list of lists changes what comes out later")
	}
}

func TestP2WriteAndRunWriteNothing(t *testing.T) {
	room := make([]int, 60)
	m := api.Machine{Out: room[0:2], Next: [][]int{room[10:18], room[20:28], room[30:38], nil}[:2]}
	rows := m.Next[:cap(m.Next)]
	for i := range room {
		room[i] = i % 2
	}
	for i := 20; i < 28; i++ {
		room[i] = 1
	}
	before := slices.Clone(room)
	for _, out := range []int{1, 2, 3, -1, 0} {
		room[1], before[1] = out, out
		s, e := verdict.Write(m)
		again, e2 := verdict.Write(m)
		if s != again || e != e2 || (e == api.OK) != (out >= 0 && out < 3) {
			t.Errorf("P2: Write(%s) = %q, %d and then %q, %d", show(m), s, e, again, e2)
		}
		v, e := verdict.Run(s, room[3:50])
		w, e2 := verdict.Run(s, slices.Clone(room[3:50]))
		if v != w || e != e2 {
			t.Errorf("P2: Run(%q, ...) = %d, %d and then %d, %d", s, v, e, w, e2)
		}
		if !slices.Equal(room, before) || len(rows[2]) != 8 || rows[3] != nil {
			t.Fatal("P2: Write or Run wrote into what it was handed")
		}
	}
}
