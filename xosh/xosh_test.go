package xosh

import (
	"math"
	"math/big"
	"math/rand/v2"
	"slices"
	"testing"

	"knucklebone/api"
)

// most is 2^64 - 1.
const most = math.MaxUint64

// big64 tells a number as one without bounds.
func big64(n uint64) *big.Int { return new(big.Int).SetUint64(n) }

// low tells what a number is modulo 2^64.
func low(n *big.Int) uint64 {
	return new(big.Int).And(n, big64(most)).Uint64()
}

// product tells x times y modulo 2^64, by numbers without bounds.
func product(x *big.Int, y uint64) uint64 { return low(new(big.Int).Mul(x, big64(y))) }

// power tells 2^k.
func power(k uint) *big.Int { return new(big.Int).Lsh(big64(1), k) }

// turned tells x turned by k: x times 2^k, and x by 2^(64 - k), down, together.
func turned(x uint64, k uint) uint64 {
	down := new(big.Int).Div(big64(x), power(64-k))
	return product(power(k), x) ^ low(down)
}

// word tells a state's word by the chapter's words.
func word(s State) uint64 {
	return product(big64(9), turned(product(big64(5), s[1]), 7))
}

// next tells the next state by the chapter's words, in their order.
func next(s State) State {
	const a, b, c, d = 0, 1, 2, 3
	t := product(power(17), s[b])
	s[c] = s[c] ^ s[a]
	s[d] = s[d] ^ s[b]
	s[b] = s[b] ^ s[c]
	s[a] = s[a] ^ s[d]
	s[c] = s[c] ^ t
	s[d] = turned(s[d], 45)
	return s
}

// single tells the state of which one bit alone is 1.
func single(bit int) State {
	var s State
	s[bit/64] = 1 << (bit % 64)
	return s
}

// states tells edges, states of words of 0 and of 2^64 - 1, of a single bit 1 or 0, and random ones.
func states() []State {
	r := rand.New(rand.NewPCG(1, 2))
	l := []State{{}, {1, 2, 3, 4}, {most, most, most, most}, {1, 1, 1, 1}, {1 << 63, 1 << 63, 1 << 63, 1 << 63}}
	for mask := range 16 {
		var s State
		for i := range s {
			if mask>>i&1 == 1 {
				s[i] = most
			}
		}
		l = append(l, s)
	}
	for bit := range 256 {
		s := single(bit)
		l = append(l, s, State{most ^ s[0], most ^ s[1], most ^ s[2], most ^ s[3]})
	}
	for range 500 {
		l = append(l, State{r.Uint64(), r.Uint64(), r.Uint64(), r.Uint64()}, State{0, r.Uint64()}, State{r.Uint64(), 0, 0, r.Uint64()})
	}
	return l
}

func TestRight(t *testing.T) { // P7.1: all but the state of all 0
	if Right(State{}) {
		t.Error("all 0 may be")
	}
	for _, s := range states() {
		if got, want := Right(s), s[0] != 0 || s[1] != 0 || s[2] != 0 || s[3] != 0; got != want {
			t.Errorf("Right(%x): %v", s, got)
		}
	}
	for bit := range 256 {
		if !Right(single(bit)) {
			t.Errorf("the state of bit %d alone may not be", bit)
		}
	}
}

func TestWord(t *testing.T) { // P7.1
	for _, s := range states() {
		if got, want := Word(s), word(s); got != want {
			t.Errorf("Word(%x): %x, not %x", s, got, want)
		}
	}
	for i, c := range []struct {
		s State
		w uint64
	}{
		{State{}, 0},
		{State{1, 2, 3, 4}, 11520},
		{State{most, 0, most, most}, 0},
		{State{0, most}, most - 4616},
		{State{0, 1}, 5 * 128 * 9},
	} {
		if got := Word(c.s); got != c.w {
			t.Errorf("case %d: %x, not %x", i, got, c.w)
		}
	}
}

func TestStep(t *testing.T) { // P7.1: in the order of the seven turns, of all 0 likewise
	for _, s := range states() {
		if got, want := Step(s), next(s); got != want {
			t.Errorf("Step(%x): %x, not %x", s, got, want)
		}
	}
	for i, c := range []struct{ s, next State }{
		{State{}, State{}},
		{State{1, 2, 3, 4}, State{7, 0, 262146, 6 << 45}},
		{State{1, 0, 0, 0}, State{1, 1, 1, 0}},
		{State{0, 1, 0, 0}, State{1, 1, 1 << 17, 1 << 45}},
		{State{0, 0, 1, 0}, State{0, 1, 1, 0}},
		{State{0, 0, 0, 1}, State{1, 0, 0, 1 << 45}},
		{State{0, 0, 0, 1 << 63}, State{1 << 63, 0, 0, 1 << 44}},
		{State{0, 1 << 63, 0, 0}, State{1 << 63, 1 << 63, 0, 1 << 44}},
	} {
		if got := Step(c.s); got != c.next {
			t.Errorf("case %d: %x, not %x", i, got, c.next)
		}
	}
}

func TestBack(t *testing.T) { // P7.1, P7.3: the state whose next one s is, for each s
	for _, s := range states() {
		if got := Back(next(s)); got != s {
			t.Errorf("Back of the next one of %x: %x", s, got)
		}
		if got := next(Back(s)); got != s {
			t.Errorf("%x is the next one of what Back tells of %x", got, s)
		}
		if Back(Step(s)) != s || Step(Back(s)) != s {
			t.Errorf("Step and Back of %x: %x, %x", s, Back(Step(s)), Step(Back(s)))
		}
	}
	if got := Back(State{}); got != (State{}) {
		t.Errorf("Back of all 0: %x", got)
	}
	s := State{1, 2, 3, 4}
	for range 1000 {
		s = Step(s)
	}
	for range 1000 {
		s = Back(s)
	}
	if s != (State{1, 2, 3, 4}) {
		t.Errorf("1000 steps forth and back: %x", s)
	}
}

func TestAdd(t *testing.T) { // P7.1: word by word
	all := states()
	for i, s := range all {
		for _, u := range []State{all[len(all)-1-i], all[(7*i+3)%len(all)], s, {}, {most, 0, most, 0}} {
			want := State{s[0] ^ u[0], s[1] ^ u[1], s[2] ^ u[2], s[3] ^ u[3]}
			if got := Add(s, u); got != want || Add(u, s) != want {
				t.Errorf("Add of %x, %x: %x, %x, not %x", s, u, got, Add(u, s), want)
			}
		}
		if Add(s, s) != (State{}) || Add(s, State{}) != s {
			t.Errorf("Add of %x and itself, and all 0: %x, %x", s, Add(s, s), Add(s, State{}))
		}
	}
}

func TestWordsOfTheExample(t *testing.T) { // P7.2
	want := []uint64{11520, 0, 1509978240, 1215971899390074240, 1216172134540287360, 607988272756665600, 16172922978634559625, 8476171486693032832, 10595114339597558777, 2904607092377533576}
	s := State{1, 2, 3, 4}
	for many := range len(want) + 1 {
		got, end, err := Words(State{1, 2, 3, 4}, many)
		if !slices.Equal(got, want[:many]) || end != s || err != api.OK {
			t.Errorf("Words of 1 2 3 4, %d: %d, %x, %v", many, got, end, err)
		}
		s = next(s)
	}
}

// right tells the states that may be.
func right() []State {
	return slices.DeleteFunc(states(), func(s State) bool { return s == State{} })
}

func TestWords(t *testing.T) { // P7.2: one a state, from s on, and the state behind them
	for i, from := range right() {
		many := []int{0, 1, 2, 3, 64, 255, 256}[i%7]
		var want []uint64
		s := from
		for range many {
			want = append(want, word(s))
			s = next(s)
		}
		got, end, err := Words(from, many)
		if !slices.Equal(got, want) || end != s || err != api.OK {
			t.Errorf("Words(%x, %d): %x, %x, %v", from, many, got, end, err)
		}
	}
}

func TestWordsInParts(t *testing.T) { // P7.2: as at once
	for i, s := range right() {
		part := i % (api.MostWords + 1)
		all, end, err := Words(s, api.MostWords)
		first, middle, _ := Words(s, part)
		second, last, _ := Words(middle, api.MostWords-part)
		if len(all) != api.MostWords || err != api.OK || end != last || !slices.Equal(all, append(first, second...)) {
			t.Errorf("Words of %x at once, and %d of them ahead: %d, %x, %x, %v", s, part, len(all), end, last, err)
		}
	}
}

// outside tells numbers that aren't from 0 to a limit.
func outside(limit int) []int {
	return []int{math.MinInt, -1 << 32, -limit, -1, limit + 1, limit * 2, 1 << 32, 1 << 40, math.MaxInt}
}

func TestWordsRefuses(t *testing.T) { // P7.2: none, all 0, and the error that is named first
	for _, many := range append(outside(api.MostWords), 0, 1, 2, 256) {
		if got, end, err := Words(State{}, many); len(got) != 0 || end != (State{}) || err != api.ErrState {
			t.Errorf("Words of all 0, %d: %x, %x, %v", many, got, end, err)
		}
	}
	for _, many := range outside(api.MostWords) {
		for _, s := range []State{{1, 2, 3, 4}, {0, 0, 0, 1}, {most, most, most, most}} {
			if got, end, err := Words(s, many); len(got) != 0 || end != (State{}) || err != api.ErrArg {
				t.Errorf("Words(%x, %d): %x, %x, %v", s, many, got, end, err)
			}
		}
	}
}

// lowest tells of so many states, from s on, whether a's lowest bit is 1.
func lowest(s State, many int) []bool {
	var l []bool
	for range many {
		l = append(l, s[0]%2 == 1)
		s = next(s)
	}
	return l
}

func TestBits(t *testing.T) { // P7.2
	all := states()
	for i, s := range all {
		many := []int{0, 1, 2, 63, 64, 65, 512}[i%7]
		if got, err := Bits(s, many); !slices.Equal(got, lowest(s, many)) || err != api.OK {
			t.Errorf("Bits(%x, %d): %v, %v", s, many, got, err)
		}
	}
	for _, many := range []int{0, 1, 256, 257, api.MostBits - 1, api.MostBits} {
		if got, err := Bits(State{}, many); len(got) != many || slices.Contains(got, true) || err != api.OK {
			t.Errorf("Bits of all 0, %d: %v, %v", many, got, err)
		}
		for _, s := range []State{{1, 2, 3, 4}, {most, most, most, most}, {0, 0, 0, 1 << 63}} {
			if got, err := Bits(s, many); !slices.Equal(got, lowest(s, many)) || err != api.OK {
				t.Errorf("Bits(%x, %d): %d, %v", s, many, len(got), err)
			}
		}
	}
	if got, err := Bits(State{1, 2, 3, 4}, 3); !slices.Equal(got, []bool{true, true, true}) || err != api.OK {
		t.Errorf("Bits of 1 2 3 4: %v, %v", got, err)
	}
}

func TestBitsRefuses(t *testing.T) { // P7.2: none, ErrArg
	for _, many := range outside(api.MostBits) {
		for _, s := range []State{{}, {1, 2, 3, 4}, {most, most, most, most}} {
			if got, err := Bits(s, many); len(got) != 0 || err != api.ErrArg {
				t.Errorf("Bits(%x, %d): %d, %v", s, many, len(got), err)
			}
		}
	}
}

func TestOneAhead(t *testing.T) { // P7.3: each state has one ahead, for no sum of next ones of single bits is all 0
	var rows []State
	lead := func(s State) int {
		return slices.IndexFunc(s[:], func(w uint64) bool { return w != 0 })
	}
	for bit := range 256 {
		s := Step(single(bit))
		for _, row := range rows {
			// A later row has a 0 where an earlier one has its first 1, so what is taken away stays so.
			at := lead(row)
			if first := row[at] & -row[at]; s[at]&first != 0 {
				s = Add(s, row)
			}
		}
		if lead(s) < 0 {
			t.Fatalf("the next one of bit %d is a sum of those of bits below", bit)
		}
		rows = append(rows, s)
	}
}

func TestStaysRight(t *testing.T) { // P7.3: what may be stays so
	for _, s := range right() {
		forth, back := s, s
		for range 20 {
			forth, back = Step(forth), Back(back)
			if !Right(forth) || !Right(back) {
				t.Fatalf("of %x comes all 0", s)
			}
		}
		if _, end, _ := Words(s, api.MostWords); !Right(end) {
			t.Errorf("behind the words of %x is all 0", s)
		}
	}
}

func TestSums(t *testing.T) { // P7.3: the next one of a sum, and bits of a sum
	all := states()
	for i, s := range all {
		u := all[(7*i+3)%len(all)]
		if got, want := Step(Add(s, u)), Add(Step(s), Step(u)); got != want {
			t.Errorf("the next one of %x and %x: %x, not %x", s, u, got, want)
		}
		if got, want := Back(Add(s, u)), Add(Back(s), Back(u)); got != want {
			t.Errorf("ahead of %x and %x: %x, not %x", s, u, got, want)
		}
		ofSum, _ := Bits(Add(s, u), 300)
		of, _ := Bits(s, 300)
		with, _ := Bits(u, 300)
		for place := range of {
			if ofSum[place] != (of[place] != with[place]) {
				t.Fatalf("bit %d of %x and %x: %v", place, s, u, ofSum[place])
			}
		}
	}
}

func TestSameCallsSameAnswers(t *testing.T) { // P7.1, P7.2: R3 to R5
	for _, s := range right() {
		kept, other := s, State{s[3], s[2], s[1], most ^ s[0]}
		keptOther := other
		may, w, step, back, sum := Right(s), Word(s), Step(s), Back(s), Add(s, other)
		words, end, err := Words(s, 9)
		bits, errBits := Bits(s, 70)
		wordsKept, bitsKept := slices.Clone(words), slices.Clone(bits)
		spoil(words, 0xDEAD)
		for _, bit := range []bool{true, false} {
			spoil(bits, bit)
			if again, errAgain := Bits(s, 70); !slices.Equal(again, bitsKept) || errAgain != errBits {
				t.Errorf("Bits(%x, 70) answers otherwise, or its answer is kept", s)
			}
		}
		again, endAgain, errAgain := Words(s, 9)
		if !slices.Equal(again, wordsKept) || end != endAgain || err != errAgain {
			t.Errorf("Words(%x, 9) answers otherwise, or its answer is kept", s)
		}
		if may != Right(s) || w != Word(s) || step != Step(s) || back != Back(s) || sum != Add(s, other) {
			t.Errorf("the same calls of %x answer otherwise", s)
		}
		if s != kept || other != keptOther {
			t.Errorf("an argument was changed: %x, %x", kept, keptOther)
		}
	}
}

// spoil puts v all over a list, and what lies behind it.
func spoil[E any](l []E, v E) {
	l = l[:cap(l)]
	for i := range l {
		l[i] = v
	}
}
