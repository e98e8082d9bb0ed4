package mix

import (
	"math"
	"math/big"
	"math/rand/v2"
	"slices"
	"testing"

	"knucklebone/api"
	"knucklebone/wide"
)

// most is 2^64 - 1.
const most = math.MaxUint64

// big64 tells a number as one without bounds.
func big64(n uint64) *big.Int { return new(big.Int).SetUint64(n) }

// big128 tells a number of 128 bits as one without bounds.
func big128(n wide.U128) *big.Int {
	return new(big.Int).Or(new(big.Int).Lsh(big64(n.Hi), 64), big64(n.Lo))
}

// low tells what a number is modulo 2^64.
func low(n *big.Int) uint64 {
	return new(big.Int).And(n, big64(most)).Uint64()
}

// mixed tells a mix by the chapter's words, by numbers without bounds.
func mixed(z uint64) uint64 {
	shifted := func(z uint64, k uint) *big.Int {
		return new(big.Int).Xor(big64(z), new(big.Int).Rsh(big64(z), k))
	}
	z = low(new(big.Int).Mul(shifted(z, 30), big64(0xBF58476D1CE4E5B9)))
	z = low(new(big.Int).Mul(shifted(z, 27), big64(0x94D049BB133111EB)))
	return low(shifted(z, 31))
}

// behind tells the state behind n steps, by numbers without bounds.
func behind(s uint64, n wide.U128) uint64 {
	way := new(big.Int).Mul(big128(n), big64(0x9E3779B97F4A7C15))
	return low(way.Add(way, big64(s)))
}

// numbers tells edges, numbers with a single bit 1 or 0, rows of bits 1 from either end, and random numbers.
func numbers() []uint64 {
	r := rand.New(rand.NewPCG(1, 2))
	l := []uint64{0, 1, 2, 3, most, most - 1, 1 << 63, 1<<63 - 1, 1 << 32, 1<<32 - 1, Gamma, most - Gamma, most - Gamma + 1, most - Gamma + 2}
	for i := range 64 {
		l = append(l, 1<<i, ^uint64(1<<i), 1<<i-1, most<<i)
	}
	for range 500 {
		l = append(l, r.Uint64())
	}
	return l
}

func TestGamma(t *testing.T) {
	if Gamma != 0x9E3779B97F4A7C15 {
		t.Errorf("%x", uint64(Gamma))
	}
}

func TestMix(t *testing.T) { // P6.1: by the chapter's words
	for _, z := range numbers() {
		if got, want := Mix(z), mixed(z); got != want {
			t.Errorf("Mix(%x): %x, not %x", z, got, want)
		}
	}
	if got := Mix(0); got != 0 {
		t.Errorf("Mix(0): %x", got)
	}
}

func TestUnmix(t *testing.T) { // P6.1: the mix, the other way round
	for _, z := range numbers() {
		if got := Unmix(mixed(z)); got != z {
			t.Errorf("Unmix of the mix of %x: %x", z, got)
		}
		if got := mixed(Unmix(z)); got != z {
			t.Errorf("%x is the mix of what Unmix tells of %x", got, z)
		}
		if Unmix(Mix(z)) != z || Mix(Unmix(z)) != z {
			t.Errorf("Mix and Unmix of %x: %x, %x", z, Unmix(Mix(z)), Mix(Unmix(z)))
		}
	}
	if got := Unmix(0); got != 0 {
		t.Errorf("Unmix(0): %x", got)
	}
}

func TestWordsOfTheExample(t *testing.T) { // P6.1, P6.2
	for _, c := range []struct {
		s     uint64
		words []uint64
	}{
		{0, []uint64{0xE220A8397B1DCDAF, 0x6E789E6AA1B965F4, 0x06C45D188009454F, 0xF88BB8A8724C81EC}},
		{1234567, []uint64{6457827717110365317, 3203168211198807973, 9817491932198370423, 4593380528125082431, 16408922859458223821}},
	} {
		got, end, err := Words(c.s, len(c.words))
		if !slices.Equal(got, c.words) || err != api.OK {
			t.Errorf("Words(%d, %d): %x, %v", c.s, len(c.words), got, err)
		}
		s := c.s
		for _, w := range c.words {
			if Word(s) != w {
				t.Errorf("Word(%x): %x, not %x", s, Word(s), w)
			}
			s = Step(s)
		}
		if end != s {
			t.Errorf("behind the words of %d: %x, not %x", c.s, end, s)
		}
	}
}

func TestWordStepBack(t *testing.T) { // P6.1
	for _, s := range numbers() {
		next, ahead := behind(s, wide.Of(1)), low(new(big.Int).Sub(big64(s), big64(0x9E3779B97F4A7C15)))
		if Step(s) != next || Back(s) != ahead {
			t.Errorf("Step, Back of %x: %x, %x, not %x, %x", s, Step(s), Back(s), next, ahead)
		}
		if Back(Step(s)) != s || Step(Back(s)) != s {
			t.Errorf("Step and Back of %x: %x, %x", s, Back(Step(s)), Step(Back(s)))
		}
		if got, want := Word(s), mixed(next); got != want {
			t.Errorf("Word(%x): %x, not %x", s, got, want)
		}
	}
	if Step(0) != Gamma || Back(Gamma) != 0 || Step(Back(0)) != 0 || Word(Back(0)) != 0 {
		t.Error("Step, Back, Word round about 0")
	}
}

// jumps tells numbers of steps: few, round about powers of 2, up to 2^128 - 1, and random ones.
func jumps() []wide.U128 {
	r := rand.New(rand.NewPCG(3, 4))
	l := []wide.U128{wide.Of(0), wide.Of(1), wide.Of(2), wide.Of(3), {Hi: most, Lo: most}, {Hi: most}, {Hi: most, Lo: 1}, {Hi: 1, Lo: most}, {Lo: most}}
	for i := range 128 {
		n := wide.Left(wide.Of(1), i)
		less, _ := wide.Sub(n, wide.Of(1))
		more, _ := wide.Add(n, wide.Of(1))
		l = append(l, n, less, more)
	}
	for range 50 {
		l = append(l, wide.U128{Hi: r.Uint64(), Lo: r.Uint64()}, wide.Of(r.Uint64()))
	}
	return l
}

func TestJump(t *testing.T) { // P6.2: by numbers without bounds
	for _, s := range []uint64{0, 1, most, 1 << 63, Gamma, 0x0123456789ABCDEF} {
		for _, n := range jumps() {
			if got, want := Jump(s, n), behind(s, n); got != want {
				t.Errorf("Jump(%x, %v): %x, not %x", s, n, got, want)
			}
		}
		round := wide.U128{Hi: 1}
		if Jump(s, wide.Of(0)) != s || Jump(s, wide.Of(1)) != Step(s) || Jump(s, round) != s || Jump(s, wide.Of(most)) != Back(s) || Jump(s, wide.U128{Hi: 1, Lo: 1}) != Step(s) {
			t.Errorf("Jump of 0, 1, 2^64 and round about it, from %x on", s)
		}
	}
}

func TestJumpsAreSteps(t *testing.T) { // P6.2: of few steps, against single ones
	for _, from := range []uint64{0, 1, most, most - Gamma, 0xFEDCBA9876543210} {
		s := from
		for n := range uint64(3000) {
			if got := Jump(from, wide.Of(n)); got != s {
				t.Fatalf("Jump(%x, %d): %x, not %x", from, n, got, s)
			}
			s = Step(s)
		}
	}
}

func TestJumpsAddUp(t *testing.T) { // P6.3: modulo 2^128, too, for 2^64 steps lead round
	all := jumps()
	for i, a := range all {
		for _, b := range []wide.U128{all[len(all)-1-i], all[(7*i+3)%len(all)]} {
			sum, _ := wide.Add(a, b)
			for _, s := range []uint64{0, most, 0x0123456789ABCDEF} {
				if got := Jump(Jump(s, a), b); got != Jump(s, sum) {
					t.Errorf("from %x on, by %v, then %v: %x, not %x", s, a, b, got, Jump(s, sum))
				}
			}
		}
	}
}

func TestDistinctStates(t *testing.T) { // P6.3: distinct numbers of steps below 2^64; each word comes of one state alone
	steps := map[uint64]bool{}
	for _, n := range jumps() {
		steps[n.Lo] = true
	}
	for n := range uint64(20000) {
		steps[n], steps[most-n], steps[n<<40] = true, true, true
	}
	for _, s := range []uint64{0, most, 0x0123456789ABCDEF} {
		states, words := map[uint64]bool{}, map[uint64]bool{}
		for n := range steps {
			state := Jump(s, wide.Of(n))
			states[state], words[Word(state)] = true, true
			if got := Back(Unmix(Word(state))); got != state {
				t.Fatalf("the word of %x is that of %x", state, got)
			}
		}
		if len(states) != len(steps) || len(words) != len(steps) {
			t.Errorf("%d numbers of steps lead to %d states, of %d words", len(steps), len(states), len(words))
		}
	}
	// No bit of the number of steps is lost: an even factor would lead twice to one state.
	for i := range 64 {
		if Jump(0, wide.Of(1<<i)) == 0 {
			t.Errorf("2^%d steps lead nowhere", i)
		}
	}
}

func TestWords(t *testing.T) { // P6.2: one a state, and the state behind them
	for _, from := range []uint64{0, 1, most, most - Gamma, 0x0123456789ABCDEF} {
		for _, many := range []int{0, 1, 2, 3, 64, 255, 256} {
			var want []uint64
			s := from
			for range many {
				s += 0x9E3779B97F4A7C15
				want = append(want, mixed(s))
			}
			got, end, err := Words(from, many)
			if !slices.Equal(got, want) || end != s || err != api.OK {
				t.Errorf("Words(%x, %d): %x, %x, %v", from, many, got, end, err)
			}
			if end != Jump(from, wide.Of(uint64(many))) {
				t.Errorf("Words(%x, %d) ends elsewhere than the jump", from, many)
			}
		}
	}
	got, end, err := Words(5, api.MostWords)
	first, middle, _ := Words(5, 100)
	second, last, _ := Words(middle, api.MostWords-100)
	if len(got) != api.MostWords || err != api.OK || end != last || !slices.Equal(got, append(first, second...)) {
		t.Errorf("Words at once, and in two parts: %d, %x, %x, %v", len(got), end, last, err)
	}
}

func TestWordsRefuses(t *testing.T) { // P6.2: none, 0, ErrArg
	for _, many := range []int{math.MinInt, -256, -1, api.MostWords + 1, 1 << 40, math.MaxInt} {
		for _, s := range []uint64{0, 1, most} {
			if got, end, err := Words(s, many); len(got) != 0 || end != 0 || err != api.ErrArg {
				t.Errorf("Words(%x, %d): %x, %x, %v", s, many, got, end, err)
			}
		}
	}
}

func TestSameCallsSameAnswers(t *testing.T) { // P6.1, P6.2: R3 to R5
	for _, s := range numbers() {
		n, state := wide.U128{Hi: ^s, Lo: s}, s
		mix, unmix, word, step, back, jump := Mix(s), Unmix(s), Word(s), Step(s), Back(s), Jump(s, n)
		got, end, err := Words(s, 9)
		kept := slices.Clone(got)
		for i := range got[:cap(got)] {
			got[:cap(got)][i] = 0xDEAD
		}
		again, endAgain, errAgain := Words(s, 9)
		if !slices.Equal(again, kept) || end != endAgain || err != errAgain {
			t.Errorf("Words(%x, 9) answers otherwise, or its answer is kept", s)
		}
		if mix != Mix(s) || unmix != Unmix(s) || word != Word(s) || step != Step(s) || back != Back(s) || jump != Jump(s, n) {
			t.Errorf("the same calls of %x answer otherwise", s)
		}
		if s != state || n != (wide.U128{Hi: ^s, Lo: s}) {
			t.Errorf("an argument of %x was changed", state)
		}
	}
}
