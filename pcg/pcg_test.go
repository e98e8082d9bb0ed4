package pcg

import (
	"encoding/binary"
	"math"
	"math/big"
	"math/rand/v2"
	"slices"
	"testing"

	"knucklebone/affine"
	"knucklebone/api"
	"knucklebone/wide"
)

const top = math.MaxUint64

// most is 2^128 - 1, half is 2^127, dxsm is the chapter's factor.
var (
	most = wide.U128{Hi: top, Lo: top}
	half = wide.U128{Hi: 1 << 63}
	dxsm = new(big.Int).SetUint64(0xDA942042E4DD58B5)
)

// toBig tells a number as one without bounds.
func toBig(n wide.U128) *big.Int {
	hi := new(big.Int).SetUint64(n.Hi)
	return hi.Lsh(hi, 64).Add(hi, new(big.Int).SetUint64(n.Lo))
}

// whole is 2^128.
func whole() *big.Int { return new(big.Int).Lsh(big.NewInt(1), 128) }

// low64 tells what a number is modulo 2^64.
func low64(n *big.Int) uint64 {
	return new(big.Int).And(n, new(big.Int).SetUint64(top)).Uint64()
}

// low tells what a number is modulo 2^128.
func low(n *big.Int) wide.U128 {
	rest := new(big.Int).Mod(n, whole())
	return wide.U128{Hi: new(big.Int).Rsh(rest, 64).Uint64(), Lo: low64(rest)}
}

// word tells a state's word by the chapter's words, by numbers without bounds.
func word(s State) uint64 {
	shifted := func(h uint64, k uint) *big.Int {
		return new(big.Int).Xor(new(big.Int).SetUint64(h), new(big.Int).Rsh(new(big.Int).SetUint64(h), k))
	}
	l := new(big.Int).SetBit(new(big.Int).SetUint64(s.S.Lo), 0, 1)
	h := low64(new(big.Int).Mul(shifted(s.S.Hi, 32), dxsm))
	return low64(new(big.Int).Mul(shifted(h, 48), l))
}

// next tells the next state, by numbers without bounds.
func next(s State) State {
	p := new(big.Int).Mul(toBig(s.S), dxsm)
	return State{low(p.Add(p, toBig(s.I))), s.I}
}

// behind tells what tells the state behind n steps, by numbers without bounds: S times the factor's power, and I times the sum of all powers below.
func behind(n wide.U128) func(s State) State {
	less := new(big.Int).Sub(dxsm, big.NewInt(1))
	power := new(big.Int).Exp(dxsm, toBig(n), new(big.Int).Mul(whole(), less))
	sum := new(big.Int).Sub(power, big.NewInt(1))
	sum.Quo(sum, less)
	return func(s State) State {
		p := new(big.Int).Mul(toBig(s.S), power)
		return State{low(p.Add(p, new(big.Int).Mul(toBig(s.I), sum))), s.I}
	}
}

// edges tells numbers at edges: of words, of all bits, odd ones and even ones.
func edges() []wide.U128 {
	return []wide.U128{
		{}, {Lo: 1}, {Lo: 2}, {Lo: 3}, {Lo: 1 << 63}, {Lo: top - 1}, {Lo: top},
		{Hi: 1}, {Hi: 1, Lo: 1}, {Hi: 1 << 32}, {Hi: 1 << 48, Lo: 1}, half, {Hi: 1 << 63, Lo: 1},
		{Hi: 1<<63 - 1, Lo: top}, {Hi: top}, {Hi: top, Lo: 1}, {Hi: top, Lo: top - 1}, most,
	}
}

// states tells states of all pairs of edges, of a single bit 1 or 0 in S or in I, and random ones: with an I that is odd, and that is even.
func states() []State {
	r := rand.New(rand.NewPCG(1, 2))
	number := func() wide.U128 { return wide.U128{Hi: r.Uint64(), Lo: r.Uint64()} }
	l := []State{}
	for _, s := range edges() {
		for _, i := range edges() {
			l = append(l, State{s, i})
		}
	}
	for bit := range 128 {
		one := wide.Left(wide.Of(1), bit)
		none, _ := wide.Sub(most, one)
		l = append(l, State{one, wide.Of(1)}, State{none, most}, State{number(), one}, State{number(), none})
	}
	for range 200 {
		l = append(l, State{number(), number()})
	}
	return l
}

// odd tells whether a state's I is odd.
func odd(s State) bool { return toBig(s.I).Bit(0) == 1 }

// right tells the states that may be.
func right() []State { return slices.DeleteFunc(states(), func(s State) bool { return !odd(s) }) }

// wrong tells the states that may not be.
func wrong() []State { return slices.DeleteFunc(states(), odd) }

// some tells each k-th of states.
func some(l []State, k int) []State {
	few := []State{}
	for i := 0; i < len(l); i += k {
		few = append(few, l[i])
	}
	return few
}

// jumps tells numbers of steps: few, round about powers of 2, up to 2^128 - 1, and random ones.
func jumps() []wide.U128 {
	r := rand.New(rand.NewPCG(3, 4))
	l := edges()
	for i := range 128 {
		n := wide.Left(wide.Of(1), i)
		less, _ := wide.Sub(n, wide.Of(1))
		more, _ := wide.Add(n, wide.Of(1))
		l = append(l, n, less, more, wide.Left(most, i))
	}
	for range 30 {
		l = append(l, wide.U128{Hi: r.Uint64(), Lo: r.Uint64()}, wide.Of(r.Uint64()))
	}
	return l
}

// sample is what numpy's PCG64DXSM tells: from a state on, words, the state behind them, and S behind far steps.
type sample struct {
	from  State
	words []uint64
	end   wide.U128
	far   []wide.U128
}

// farSteps tells the numbers of steps of a sample's far.
func farSteps() []wide.U128 {
	return []wide.U128{{Hi: 1}, most, {Hi: 0x0123456789ABCDEF, Lo: 0xFEDCBA9876543210}}
}

// samples tells what is known of the seeds 0, 42 and DEADBEAF of numpy.
func samples() []sample {
	return []sample{{
		State{wide.U128{Hi: 0x1AA1B5345996452D, Lo: 0x09585EB7A69561E3}, wide.U128{Hi: 0x418DDADB3AF71A82, Lo: 0x588133BC447873A9}},
		[]uint64{0xD97E4A147F788A70, 0x8DFA7BCE56E3A253, 0x13556ED9F53D3C10, 0x55DBF1C241341E98, 0xA2CD98F722EB0E0A, 0x83DFC407203ADE8},
		wide.U128{Hi: 0x2E2453FE1CEC6DF3, Lo: 0x2BE902EEFCE8F53D},
		[]wide.U128{{Hi: 0xC39EBA010CF32B90, Lo: 0x09585EB7A69561E3}, {Hi: 0x61838A90D900D334, Lo: 0xBBEC6E1806F85B92}, {Hi: 0x485905CD845C4A1F, Lo: 0x0397B6B72E80C013}},
	}, {
		State{wide.U128{Hi: 0xCEA44F6798798F2A, Lo: 0xACBC7C9D68860AC8}, wide.U128{Hi: 0xFA505436C9A8416E, Lo: 0x66CAF2E28D25ABFF}},
		[]uint64{0xAB1C50338E63481D, 0x1BDF91D548D1872, 0xA872905D0418D0A1, 0x5F0A84270B80EABC, 0x34E825054DB5F685, 0x319FF93CB20CB433},
		wide.U128{Hi: 0xE9891678515C33F1, Lo: 0x74A8FE9E1E065F76},
		[]wide.U128{{Hi: 0x8A14AA1B7BF53E03, Lo: 0xACBC7C9D68860AC8}, {Hi: 0x9F8C287212D2D73A, Lo: 0x5BB2E6AB50B15E45}, {Hi: 0xDB4372664E3799B2, Lo: 0x7AED48FC10836058}},
	}, {
		State{wide.U128{Hi: 0xDCBF51ECA8A06D6D, Lo: 0xA11C0E6F95BE4591}, wide.U128{Hi: 0x6F01E045569D93C4, Lo: 0x40AC10DD049310B5}},
		[]uint64{0xDF1DDCF1E22521FE, 0xC71B2F9C706CF151, 0x6922A8CC24AD96B2, 0x82738C549BECCC30, 0x5E8415CDB1F17580, 0x64C54AD0C09CB43},
		wide.U128{Hi: 0x626A74609B564894, Lo: 0xDA44FDBF8A801FF3},
		[]wide.U128{{Hi: 0x0B6A2A66173E918C, Lo: 0xA11C0E6F95BE4591}, {Hi: 0xA26AA3AE4E9225FB, Lo: 0x32771F167B9276EC}, {Hi: 0x6EEE461430015B00, Lo: 0xCFA1E32774B0DF81}},
	}}
}

func TestSamples(t *testing.T) { // P10.1, P10.2: as the published generator
	for _, c := range samples() {
		got, end, err := Words(c.from, len(c.words))
		if !slices.Equal(got, c.words) || end != (State{c.end, c.from.I}) || err != api.OK {
			t.Errorf("Words(%x, %d): %x, %x, %v", c.from, len(c.words), got, end, err)
		}
		s := c.from
		for _, w := range c.words {
			if got := Word(s); got != w {
				t.Errorf("Word(%x): %x, not %x", s, got, w)
			}
			s = Step(s)
		}
		for i, n := range farSteps() {
			if got, err := Jump(c.from, n); got != (State{c.far[i], c.from.I}) || err != api.OK {
				t.Errorf("Jump(%x, %x): %x, %v", c.from, n, got, err)
			}
		}
		if got := Back(c.from); got != (State{c.far[1], c.from.I}) {
			t.Errorf("Back(%x): %x", c.from, got)
		}
	}
}

func TestExample(t *testing.T) { // P10.1, P10.2: the chapter's
	from, then := State{I: wide.Of(1)}, State{wide.Of(1), wide.Of(1)}
	if Word(from) != 0 || Step(from) != then || Word(then) != 0 || Back(then) != from {
		t.Errorf("%x, %x, %x, %x", Word(from), Step(from), Word(then), Back(then))
	}
	// Behind S 1 is the factor and 1, which is below 2^64, so that its word is 0 likewise.
	end := State{wide.Of(0xDA942042E4DD58B6), wide.Of(1)}
	if got, last, err := Words(from, 2); !slices.Equal(got, []uint64{0, 0}) || last != end || err != api.OK {
		t.Errorf("%x, %x, %v", got, last, err)
	}
}

func TestRight(t *testing.T) { // P10.1: by I alone
	for _, c := range []struct {
		i    wide.U128
		want bool
	}{
		{wide.Of(0), false},
		{wide.Of(1), true},
		{wide.Of(2), false},
		{wide.Of(3), true},
		{wide.Of(top - 1), false},
		{wide.Of(top), true},
		{wide.U128{Hi: 1}, false},
		{wide.U128{Hi: 1, Lo: 1}, true},
		{half, false},
		{wide.U128{Hi: top}, false},
		{wide.U128{Hi: top, Lo: top - 1}, false},
		{most, true},
	} {
		for _, s := range edges() {
			if got := Right(State{s, c.i}); got != c.want {
				t.Errorf("Right of S %x, I %x: %v", s, c.i, got)
			}
		}
	}
	for _, s := range states() {
		if got := Right(s); got != odd(s) {
			t.Errorf("Right(%x): %v", s, got)
		}
	}
}

func TestWord(t *testing.T) { // P10.1: by the chapter's words, by S alone
	for _, s := range states() {
		want := word(s)
		for _, i := range []wide.U128{s.I, wide.Of(0), wide.Of(1), most} {
			if got := Word(State{s.S, i}); got != want {
				t.Errorf("Word of S %x, I %x: %x, not %x", s.S, i, got, want)
			}
		}
	}
}

func TestWordEdges(t *testing.T) { // P10.1: S 0, Lo even and odd, the greatest S
	const (
		factorTwice = 0xB5284085C9BAB16A          // twice the factor, modulo 2^64
		mixedOne    = 0xDA942042E4DD58B5 ^ 0xDA94 // h of Hi 1
		mixedTwo    = factorTwice ^ 0xB528        // h of Hi 2
	)
	for _, c := range []struct {
		s    wide.U128
		want uint64
	}{
		{wide.Of(0), 0},
		{wide.Of(1), 0},
		{wide.Of(top), 0},
		{wide.U128{Hi: 1}, mixedOne},
		{wide.U128{Hi: 1, Lo: 1}, mixedOne},
		{wide.U128{Hi: 2}, mixedTwo},
		{wide.U128{Hi: 2, Lo: 1}, mixedTwo},
		{wide.U128{Hi: 1, Lo: 2}, (mixedOne * 3) & top},
		{wide.U128{Hi: 1, Lo: 3}, (mixedOne * 3) & top},
		{wide.U128{Hi: 1, Lo: top}, 1<<64 - mixedOne},
		{wide.U128{Hi: 1, Lo: top - 1}, 1<<64 - mixedOne},
		{most, 0xE4DD58B4FFFFE4DE},
	} {
		if got := Word(State{c.s, wide.Of(1)}); got != c.want {
			t.Errorf("Word of S %x: %x, not %x", c.s, got, c.want)
		}
	}
}

func TestWordElsewhere(t *testing.T) { // P10.1: Go's own generator steps otherwise, but its words come of states likewise
	g := rand.NewPCG(5, 6)
	for range 2000 {
		w := g.Uint64()
		kept, err := g.MarshalBinary()
		if err != nil || len(kept) < 16 {
			t.Fatal(kept, err)
		}
		hi, lo := kept[len(kept)-16:len(kept)-8], kept[len(kept)-8:]
		s := wide.U128{Hi: binary.BigEndian.Uint64(hi), Lo: binary.BigEndian.Uint64(lo)}
		if got := Word(State{S: s}); got != w {
			t.Errorf("Word of S %x: %x, not %x", s, got, w)
		}
	}
}

func TestMap(t *testing.T) { // P10.1: against the chapter's words, and against Step at any S
	for _, s := range states() {
		m := Map(s)
		if m != (affine.Map{A: wide.Of(0xDA942042E4DD58B5), C: s.I}) {
			t.Errorf("Map(%x): %x", s, m)
		}
		for _, x := range edges() {
			here := State{x, s.I}
			if Map(here) != m {
				t.Errorf("Map(%x): %x, not %x", here, Map(here), m)
			}
			if got := (State{affine.At(m, x), s.I}); got != next(here) || got != Step(here) {
				t.Errorf("the map of %x takes S %x to %x", s, x, got)
			}
		}
	}
}

func TestStep(t *testing.T) { // P10.1: of a state that may not be likewise; I stays
	for _, s := range states() {
		got := Step(s)
		if want := next(s); got != want {
			t.Errorf("Step(%x): %x, not %x", s, got, want)
		}
		if got.I != s.I {
			t.Errorf("Step(%x) makes I %x", s, got.I)
		}
	}
}

func TestStepOver(t *testing.T) { // P10.1: product and sum beyond 2^128
	const factor = 0xDA942042E4DD58B5
	for _, c := range []struct{ s, i, want wide.U128 }{
		{wide.Of(0), wide.Of(0), wide.Of(0)},
		{wide.Of(0), most, most},
		{wide.Of(1), wide.Of(0), wide.Of(factor)},
		{wide.Of(1), wide.Of(1), wide.Of(factor + 1)},
		{wide.Of(1), most, wide.Of(factor - 1)},
		{most, wide.Of(0), wide.U128{Hi: top, Lo: 1<<64 - factor}},
		{most, wide.Of(factor), wide.Of(0)},
		{most, wide.Of(factor + 1), wide.Of(1)},
		{most, most, wide.U128{Hi: top, Lo: 1<<64 - factor - 1}},
		{half, wide.Of(1), wide.U128{Hi: 1 << 63, Lo: 1}},
		{half, half, wide.Of(0)},
		{wide.U128{Hi: 1}, wide.Of(7), wide.U128{Hi: factor, Lo: 7}},
		{wide.U128{Hi: 1 << 32}, wide.Of(1), wide.U128{Hi: 0xE4DD58B5 << 32, Lo: 1}},
		{wide.Of(1 << 32), wide.Of(1), wide.U128{Hi: 0xDA942042, Lo: 0xE4DD58B5<<32 | 1}},
		{wide.Of(top), wide.Of(0), wide.U128{Hi: factor - 1, Lo: 1<<64 - factor}},
	} {
		if got := Step(State{c.s, c.i}); got != (State{c.want, c.i}) {
			t.Errorf("Step of S %x, I %x: %x, not S %x", c.s, c.i, got, c.want)
		}
	}
}

func TestBack(t *testing.T) { // P10.1, P10.3: before and behind Step, for each state; I stays
	for _, s := range states() {
		back := Back(s)
		if got := next(back); got != s {
			t.Errorf("%x is the next one of what Back tells of %x", got, s)
		}
		if got := Back(next(s)); got != s {
			t.Errorf("Back of the next one of %x: %x", s, got)
		}
		if Back(Step(s)) != s || Step(back) != s {
			t.Errorf("Step and Back of %x: %x, %x", s, Back(Step(s)), Step(back))
		}
		if back.I != s.I {
			t.Errorf("Back(%x) makes I %x", s, back.I)
		}
	}
	from := State{wide.Of(7), most}
	s := from
	for range 1000 {
		s = Step(s)
	}
	for range 1000 {
		s = Back(s)
	}
	if s != from {
		t.Errorf("1000 steps forth and back: %x", s)
	}
}

func TestJump(t *testing.T) { // P10.2: by numbers without bounds
	few := some(right(), 9)
	for _, n := range jumps() {
		want := behind(n)
		for _, s := range few {
			if got, err := Jump(s, n); got != want(s) || err != api.OK {
				t.Errorf("Jump(%x, %x): %x, %v, not %x", s, n, got, err, want(s))
			}
		}
	}
}

func TestJumpEdges(t *testing.T) { // P10.2: n 0, 1, 2, and the greatest one, which leads one step back
	for _, s := range right() {
		for _, c := range []struct {
			n    wide.U128
			want State
		}{
			{wide.Of(0), s},
			{wide.Of(1), next(s)},
			{wide.Of(2), next(next(s))},
			{most, Back(s)},
			{wide.U128{Hi: top, Lo: top - 1}, Back(Back(s))},
		} {
			if got, err := Jump(s, c.n); got != c.want || err != api.OK {
				t.Errorf("Jump(%x, %x): %x, %v, not %x", s, c.n, got, err, c.want)
			}
		}
	}
}

func TestJumpsAreSteps(t *testing.T) { // P10.2: of few steps, against single ones
	for _, from := range some(right(), 40) {
		s := from
		for n := range uint64(1000) {
			if got, err := Jump(from, wide.Of(n)); got != s || err != api.OK {
				t.Fatalf("Jump(%x, %d): %x, %v, not %x", from, n, got, err, s)
			}
			s = next(s)
		}
	}
}

func TestJumpRefuses(t *testing.T) { // P10.2: the zero one, ErrState, whatever n is
	for i, s := range wrong() {
		all := jumps()
		for _, n := range []wide.U128{wide.Of(0), wide.Of(1), most, half, all[i%len(all)]} {
			if got, err := Jump(s, n); got != (State{}) || err != api.ErrState {
				t.Errorf("Jump(%x, %x): %x, %v", s, n, got, err)
			}
		}
	}
}

func TestWords(t *testing.T) { // P10.2: one a state, from s on, and the state behind them
	for i, from := range right() {
		many := []int{0, 1, 2, 3, 64, 255, 256}[i%7]
		var want []uint64
		s := from
		for range many {
			want = append(want, word(s))
			s = next(s)
		}
		got, end, err := Words(from, many)
		if !slices.Equal(got, want) || end != s || err != api.OK {
			t.Errorf("Words(%x, %d): %x, %x, %v", from, many, got, end, err)
		}
		if far, _ := Jump(from, wide.Of(uint64(many))); end != far {
			t.Errorf("Words(%x, %d) ends at %x, not where the jump does, %x", from, many, end, far)
		}
	}
}

func TestWordsInParts(t *testing.T) { // P10.2: as at once
	for i, s := range right() {
		part := i % (api.MostWords + 1)
		all, end, err := Words(s, api.MostWords)
		first, middle, _ := Words(s, part)
		second, last, _ := Words(middle, api.MostWords-part)
		if len(all) != api.MostWords || err != api.OK || end != last || !slices.Equal(all, append(first, second...)) {
			t.Errorf("Words of %x at once, and %d of them ahead: %d, %x, %x, %v", s, part, len(all), end, last, err)
		}
	}
}

// outside tells numbers that aren't from 0 to MostWords.
func outside() []int {
	return []int{math.MinInt, -1 << 32, -api.MostWords, -1, api.MostWords + 1, api.MostWords * 2, 1 << 32, 1 << 40, math.MaxInt}
}

func TestWordsRefuses(t *testing.T) { // P10.2: none, the zero one, and the error that is named first
	for _, s := range wrong() {
		for _, many := range append(outside(), 0, 1, 2, api.MostWords) {
			if got, end, err := Words(s, many); len(got) != 0 || end != (State{}) || err != api.ErrState {
				t.Errorf("Words(%x, %d): %x, %x, %v", s, many, got, end, err)
			}
		}
	}
	for _, s := range right() {
		for _, many := range outside() {
			if got, end, err := Words(s, many); len(got) != 0 || end != (State{}) || err != api.ErrArg {
				t.Errorf("Words(%x, %d): %x, %x, %v", s, many, got, end, err)
			}
		}
	}
}

func TestJumpsAddUp(t *testing.T) { // P10.3: modulo 2^128, too, for 2^128 steps lead round
	all, over := jumps(), 0
	few := some(right(), 50)
	for i, a := range all {
		for _, b := range []wide.U128{all[len(all)-1-i], all[(7*i+3)%len(all)], most, half} {
			sum, more := wide.Add(a, b)
			if more {
				over++
			}
			for _, s := range few {
				first, _ := Jump(s, a)
				got, err := Jump(first, b)
				if want, _ := Jump(s, sum); got != want || err != api.OK {
					t.Errorf("from %x on, by %x, then %x: %x, %v, not %x", s, a, b, got, err, want)
				}
			}
		}
	}
	if over < 100 {
		t.Errorf("only %d sums go over 2^128", over)
	}
}

func TestRound(t *testing.T) { // P10.3: 2^128 steps lead round, and no part of them does, so all below lead to distinct states
	for _, s := range right() {
		last, _ := Jump(s, most)
		if got := Step(last); got != s {
			t.Errorf("2^128 steps lead from %x to %x", s, got)
		}
		// What leads round within fewer steps does so within a power of 2 that parts 2^128.
		for i := range 128 {
			if got, _ := Jump(s, wide.Left(wide.Of(1), i)); got == s {
				t.Errorf("2^%d steps lead round from %x on", i, s)
			}
		}
	}
}

func TestDistinctStates(t *testing.T) { // P10.3
	steps := map[wide.U128]bool{}
	for _, n := range jumps() {
		steps[n] = true
	}
	for n := range uint64(1000) {
		steps[wide.Of(n)], steps[wide.U128{Hi: n}], steps[wide.U128{Hi: top, Lo: top - n}] = true, true, true
	}
	for _, s := range some(right(), 60) {
		reached := map[State]wide.U128{}
		for n := range steps {
			state, _ := Jump(s, n)
			if other, twice := reached[state]; twice {
				t.Fatalf("from %x on, %x and %x steps lead to %x", s, n, other, state)
			}
			if !Right(state) {
				t.Fatalf("from %x on, %x steps lead to %x, which may not be", s, n, state)
			}
			reached[state] = n
		}
	}
}

// answers is all that the package answers of a state, a number of steps and a number of words.
type answers struct {
	may              bool
	taken            affine.Map
	word             uint64
	next, ahead, far State
	end              State
	jumped, told     api.Errno
}

// ask tells all answers, and the list of words.
func ask(s *State, n *wide.U128, many *int) (answers, []uint64) {
	far, jumped := Jump(*s, *n)
	words, end, told := Words(*s, *many)
	return answers{Right(*s), Map(*s), Word(*s), Step(*s), Back(*s), far, end, jumped, told}, words
}

func TestSameCallsSameAnswers(t *testing.T) { // P10.1, P10.2: R3 to R5
	all := states()
	for i, s := range all {
		for _, many := range []int{-1, 0, 9, api.MostWords + 1} {
			a, b, n, m := s, all[len(all)-1-i], wide.U128{Hi: s.S.Lo, Lo: ^s.S.Hi}, many
			keptOther, keptSteps := b, n
			first, words := ask(&a, &n, &m)
			kept := slices.Clone(words)
			for j := range words[:cap(words)] {
				words[:cap(words)][j] = 0xDEAD
			}
			ask(&b, &n, &m)
			again, wordsAgain := ask(&a, &n, &m)
			if again != first || !slices.Equal(wordsAgain, kept) {
				t.Errorf("%x, %x, %d: %v, %x, then %v, %x", s, n, many, first, kept, again, wordsAgain)
			}
			if a != s || b != keptOther || n != keptSteps || m != many {
				t.Errorf("an argument was changed: %x, %x, %x, %d", a, b, n, m)
			}
		}
	}
}
