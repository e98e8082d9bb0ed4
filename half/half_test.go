package half

import (
	"math"
	"math/big"
	"math/rand/v2"
	"slices"
	"testing"

	"knucklebone/api"
	"knucklebone/philox"
	"knucklebone/wide"
)

const (
	top    = math.MaxUint64
	topLow = math.MaxUint32
)

// most is 2^128 - 1, middle is 2^127.
var (
	most   = wide.U128{Hi: top, Lo: top}
	middle = wide.U128{Hi: 1 << 63}
)

// toBig tells a number as one without bounds.
func toBig(n wide.U128) *big.Int {
	hi := new(big.Int).SetUint64(n.Hi)
	return hi.Lsh(hi, 64).Add(hi, new(big.Int).SetUint64(n.Lo))
}

// power tells 2^k.
func power(k uint) *big.Int { return new(big.Int).Lsh(big.NewInt(1), k) }

// fromBig tells a number that is below 2^128.
func fromBig(n *big.Int) wide.U128 {
	hi, lo := new(big.Int).DivMod(n, power(64), new(big.Int))
	return wide.U128{Hi: hi.Uint64(), Lo: lo.Uint64()}
}

// place tells how many halves there are ahead of a state, from C 0 on.
func place(s State) *big.Int {
	at := new(big.Int).Lsh(toBig(s.C), 1)
	if s.Second {
		at.Add(at, big.NewInt(1))
	}
	return at
}

// at tells the state of a key at a place, modulo 2^129, for that many halves lead round.
func at(p *big.Int, k philox.Key) State {
	c, second := new(big.Int).DivMod(new(big.Int).Mod(p, power(129)), big.NewInt(2), new(big.Int))
	return State{fromBig(c), k, second.Sign() != 0}
}

// behind tells the state behind so many steps, by numbers without bounds.
func behind(s State, n *big.Int) State { return at(new(big.Int).Add(place(s), n), s.K) }

// next and ahead tell the state behind a step, and the one ahead of it.
func next(s State) State  { return behind(s, big.NewInt(1)) }
func ahead(s State) State { return behind(s, big.NewInt(-1)) }

// split tells a number's four words, by numbers without bounds.
func split(c wide.U128) philox.Block {
	var b philox.Block
	rest := toBig(c)
	for i := range b {
		word := new(big.Int)
		rest.DivMod(rest, power(32), word)
		b[i] = uint32(word.Uint64())
	}
	return b
}

// joined tells the number of words, the lowest one first, by numbers without bounds.
func joined(words ...uint32) *big.Int {
	n := new(big.Int)
	for i, w := range words {
		n.Add(n, new(big.Int).Mul(new(big.Int).SetUint64(uint64(w)), power(32*uint(i))))
	}
	return n
}

// word tells a state's word, by the chapter's words.
func word(s State) uint64 {
	out := philox.Out(split(s.C), s.K)
	if s.Second {
		return joined(out[2], out[3]).Uint64()
	}
	return joined(out[0], out[1]).Uint64()
}

// numbers tells numbers at edges, round about powers of 2, and random ones.
func numbers() []wide.U128 {
	l := []wide.U128{{}, most, {Hi: top}, {Lo: top}, {Hi: 0x0F0E0D0C0B0A0908, Lo: 0x0706050403020100}}
	for i := range 128 {
		n := wide.Left(wide.Of(1), i)
		less, _ := wide.Sub(n, wide.Of(1))
		more, _ := wide.Add(n, wide.Of(1))
		l = append(l, n, less, more, wide.U128{Hi: ^n.Hi, Lo: ^n.Lo}, wide.Left(most, i))
	}
	for n := range uint64(20) {
		l = append(l, wide.Of(n), wide.U128{Hi: top, Lo: top - n})
	}
	r := rand.New(rand.NewPCG(5, 6))
	for range 60 {
		l = append(l, wide.U128{Hi: r.Uint64(), Lo: r.Uint64()}, wide.Of(r.Uint64()))
	}
	return l
}

// keys tells keys at edges, and others.
func keys() []philox.Key {
	return []philox.Key{{0, 0}, {topLow, topLow}, {1, 0}, {0, 1}, {0x61C88647, 0x4498517B}, {0xA4093822, 0x299F31D0}}
}

// states tells states of all numbers, at both halves, of each key in turn.
func states() []State {
	by, l := keys(), []State{}
	for i, c := range numbers() {
		l = append(l, State{c, by[i%len(by)], false}, State{c, by[i%len(by)], true})
	}
	return l
}

// some tells each k-th of states; of an odd k, of both halves.
func some(k int) []State {
	few := []State{}
	for i, s := range states() {
		if i%k == 0 {
			few = append(few, s)
		}
	}
	return few
}

// known is a number and a key, and the words of both halves.
type known struct {
	c     wide.U128
	k     philox.Key
	words []uint64
}

// published tells the chapter's example, and two that the generator's authors publish.
func published() []known {
	return []known{
		{wide.U128{}, philox.Key{}, []uint64{0xE169C58D6627E8D5, 0x9B00DBD8BC57AC4C}},
		{most, philox.Key{topLow, topLow}, []uint64{0x41C83B0E408F276D, 0x6D5451FDA20BC7C6}},
		{wide.U128{Hi: 0x0370734413198A2E, Lo: 0x85A308D3243F6A88}, philox.Key{0xA4093822, 0x299F31D0}, []uint64{0x94FDCCEBD16CFE09, 0x24126EA15001E420}},
	}
}

func TestPublished(t *testing.T) { // P12.1, P12.2: the example among them
	for _, p := range published() {
		s := State{C: p.c, K: p.k}
		second := State{p.c, p.k, true}
		if first, last := Word(s), Word(second); first != p.words[0] || last != p.words[1] {
			t.Errorf("Word of %x by %x: %X, %X", p.c, p.k, first, last)
		}
		words, end, err := Words(s, 2)
		more, _ := wide.Add(p.c, wide.Of(1))
		if !slices.Equal(words, p.words) || end != (State{C: more, K: p.k}) || err != api.OK {
			t.Errorf("Words(%v, 2): %X, %v, %v", s, words, end, err)
		}
	}
}

func TestBlock(t *testing.T) { // P12.1: the lowest word first
	for _, c := range []struct {
		n    wide.U128
		want philox.Block
	}{
		{wide.U128{}, philox.Block{}},
		{wide.Of(1), philox.Block{1, 0, 0, 0}},
		{wide.Of(1 << 32), philox.Block{0, 1, 0, 0}},
		{wide.U128{Hi: 1}, philox.Block{0, 0, 1, 0}},
		{wide.U128{Hi: 1 << 32}, philox.Block{0, 0, 0, 1}},
		{most, philox.Block{topLow, topLow, topLow, topLow}},
		{wide.U128{Hi: 0x0000000400000003, Lo: 0x0000000200000001}, philox.Block{1, 2, 3, 4}},
		{wide.U128{Hi: 0xFEDCBA9876543210, Lo: 0x0123456789ABCDEF}, philox.Block{0x89ABCDEF, 0x01234567, 0x76543210, 0xFEDCBA98}},
	} {
		if got := Block(c.n); got != c.want {
			t.Errorf("Block(%x): %x, not %x", c.n, got, c.want)
		}
		if got := Number(c.want); got != c.n {
			t.Errorf("Number(%x): %x, not %x", c.want, got, c.n)
		}
	}
	for _, n := range numbers() {
		if got, want := Block(n), split(n); got != want {
			t.Errorf("Block(%x): %x, not %x", n, got, want)
		}
	}
}

// blocks tells blocks of words at edges, and random ones.
func blocks() []philox.Block {
	words, l := []uint32{0, 1, 1 << 31, topLow}, []philox.Block{}
	for i := range 256 {
		l = append(l, philox.Block{words[i&3], words[i>>2&3], words[i>>4&3], words[i>>6]})
	}
	r := rand.New(rand.NewPCG(7, 8))
	for range 200 {
		l = append(l, philox.Block{r.Uint32(), r.Uint32(), r.Uint32(), r.Uint32()})
	}
	return l
}

func TestNumber(t *testing.T) { // P12.1: behind Block, and Block behind it
	for _, b := range blocks() {
		n := Number(b)
		if want := fromBig(joined(b[:]...)); n != want {
			t.Errorf("Number(%x): %x, not %x", b, n, want)
		}
		if got := Block(n); got != b {
			t.Errorf("Block of the number of %x: %x", b, got)
		}
	}
	for _, n := range numbers() {
		if got := Number(Block(n)); got != n {
			t.Errorf("Number of the block of %x: %x", n, got)
		}
	}
}

func TestWord(t *testing.T) { // P12.1: at either half, the first word of its pair the low one
	for _, s := range states() {
		if got, want := Word(s), word(s); got != want {
			t.Errorf("Word(%v): %X, not %X", s, got, want)
		}
	}
	for _, c := range some(14) {
		for _, k := range keys() {
			out := philox.Out(Block(c.C), k)
			first, second := Word(State{c.C, k, false}), Word(State{c.C, k, true})
			for i, got := range []uint32{uint32(first), uint32(first >> 32), uint32(second), uint32(second >> 32)} {
				if got != out[i] {
					t.Errorf("of C %x by %x the word %d is %X, not %X", c.C, k, i, got, out[i])
				}
			}
		}
	}
}

func TestStep(t *testing.T) { // P12.1: at either half; K stays
	for _, s := range states() {
		if got, want := Step(s), next(s); got != want {
			t.Errorf("Step(%v): %v, not %v", s, got, want)
		}
	}
}

func TestStepEdges(t *testing.T) { // P12.1: over 2^64, and over 2^128
	k := philox.Key{5, 6}
	for _, c := range []struct{ from, to State }{
		{State{wide.U128{}, k, false}, State{wide.U128{}, k, true}},
		{State{wide.U128{}, k, true}, State{wide.Of(1), k, false}},
		{State{wide.Of(1), k, false}, State{wide.Of(1), k, true}},
		{State{wide.Of(top), k, false}, State{wide.Of(top), k, true}},
		{State{wide.Of(top), k, true}, State{wide.U128{Hi: 1}, k, false}},
		{State{wide.U128{Hi: 7, Lo: top}, k, true}, State{wide.U128{Hi: 8}, k, false}},
		{State{most, k, false}, State{most, k, true}},
		{State{most, k, true}, State{wide.U128{}, k, false}},
	} {
		if got := Step(c.from); got != c.to {
			t.Errorf("Step(%v): %v, not %v", c.from, got, c.to)
		}
		if got := Back(c.to); got != c.from {
			t.Errorf("Back(%v): %v, not %v", c.to, got, c.from)
		}
	}
}

func TestBack(t *testing.T) { // P12.1: at either half; before and behind Step; K stays
	for _, s := range states() {
		back := Back(s)
		if want := ahead(s); back != want {
			t.Errorf("Back(%v): %v, not %v", s, back, want)
		}
		if got := Step(back); got != s {
			t.Errorf("Step behind Back of %v: %v", s, got)
		}
		if got := Back(Step(s)); got != s {
			t.Errorf("Back behind Step of %v: %v", s, got)
		}
	}
}

func TestJump(t *testing.T) { // P12.2: by numbers without bounds, odd and even ones from either half
	over := 0
	for _, s := range some(5) {
		for _, n := range numbers() {
			if got, want := Jump(s, n), behind(s, toBig(n)); got != want {
				t.Fatalf("Jump(%v, %v): %v, not %v", s, n, got, want)
			}
			if new(big.Int).Add(place(s), toBig(n)).BitLen() > 129 {
				over++
			}
		}
	}
	if over < 100 {
		t.Errorf("only %d jumps go over 2^129 halves", over)
	}
}

// jumped is a state, so many steps, and the state behind them.
type jumped struct {
	from State
	n    wide.U128
	to   State
}

// jumps tells jumps at edges.
func jumps() []jumped {
	k := philox.Key{7, 8}
	less := wide.U128{Hi: 1<<63 - 1, Lo: top}
	first := func(c wide.U128) State { return State{c, k, false} }
	second := func(c wide.U128) State { return State{c, k, true} }
	return []jumped{
		{first(wide.U128{}), wide.U128{}, first(wide.U128{})},
		{second(wide.U128{}), wide.U128{}, second(wide.U128{})},
		{first(wide.U128{}), wide.Of(1), second(wide.U128{})},
		{second(wide.U128{}), wide.Of(1), first(wide.Of(1))},
		{first(wide.U128{}), wide.Of(2), first(wide.Of(1))},
		{second(wide.U128{}), wide.Of(2), second(wide.Of(1))},
		{first(wide.U128{}), wide.Of(3), second(wide.Of(1))},
		{second(wide.U128{}), wide.Of(3), first(wide.Of(2))},
		{first(wide.U128{}), wide.U128{Hi: 1}, first(wide.Of(1 << 63))},
		{first(wide.U128{}), middle, first(wide.U128{Hi: 1 << 62})},
		{second(wide.U128{}), middle, second(wide.U128{Hi: 1 << 62})},
		{first(wide.U128{Hi: 3 << 62}), middle, first(wide.U128{})},
		{second(wide.U128{Hi: 3 << 62}), middle, second(wide.U128{})},
		{first(wide.U128{}), most, second(less)},
		{second(wide.U128{}), most, first(middle)},
		{first(middle), most, second(most)},
		{second(middle), most, first(wide.U128{})},
		{first(most), wide.Of(1), second(most)},
		{second(most), wide.Of(1), first(wide.U128{})},
		{first(most), wide.Of(2), first(wide.U128{})},
		{second(most), wide.Of(2), second(wide.U128{})},
		{first(most), most, second(wide.U128{Hi: 1<<63 - 1, Lo: top - 1})},
		{second(most), most, first(less)},
	}
}

func TestJumpEdges(t *testing.T) { // P12.2: n 0, 1, 2, 3, 2^127 and the greatest one; sums over 2^128
	for _, j := range jumps() {
		if got := Jump(j.from, j.n); got != j.to {
			t.Errorf("Jump(%v, %v): %v, not %v", j.from, j.n, got, j.to)
		}
	}
}

func TestJumpsAreSteps(t *testing.T) { // P12.2: of few steps, against single ones
	for _, from := range some(13) {
		s := from
		for n := range uint64(300) {
			if got := Jump(from, wide.Of(n)); got != s {
				t.Fatalf("Jump(%v, %d): %v, not %v", from, n, got, s)
			}
			s = Step(s)
		}
	}
}

func TestWords(t *testing.T) { // P12.2: one a state, from s on, and the state behind them
	for i, from := range states() {
		many := []int{0, 1, 2, 3, 64, 255, api.MostWords}[i%7]
		var want []uint64
		s := from
		for range many {
			want = append(want, word(s))
			s = next(s)
		}
		got, end, err := Words(from, many)
		if !slices.Equal(got, want) || end != s || err != api.OK {
			t.Errorf("Words(%v, %d): %X, %v, %v", from, many, got, end, err)
		}
		if far := Jump(from, wide.Of(uint64(many))); end != far {
			t.Errorf("Words(%v, %d) ends at %v, not where the jump does, %v", from, many, end, far)
		}
	}
}

func TestWordsOneByOne(t *testing.T) { // P12.2: against Word and Step, from either half
	for _, c := range []wide.U128{{}, wide.Of(1), wide.Of(top - 1), {Hi: top, Lo: top - 1}, most} {
		for _, from := range []State{{C: c}, {C: c, Second: true}, {c, philox.Key{9, 10}, false}, {c, philox.Key{9, 10}, true}} {
			s, ones := from, []uint64{}
			for many := range api.MostWords + 1 {
				got, end, err := Words(from, many)
				if !slices.Equal(got, ones) || end != s || err != api.OK {
					t.Fatalf("Words(%v, %d): %X, %v, %v", from, many, got, end, err)
				}
				ones, s = append(ones, Word(s)), Step(s)
			}
		}
	}
}

func TestWordsInParts(t *testing.T) { // P12.2: as at once, odd parts too
	for i, s := range some(3) {
		part := i % (api.MostWords + 1)
		all, end, err := Words(s, api.MostWords)
		first, between, _ := Words(s, part)
		second, last, _ := Words(between, api.MostWords-part)
		if len(all) != api.MostWords || err != api.OK || end != last || !slices.Equal(all, append(first, second...)) {
			t.Errorf("Words of %v at once, and %d of them ahead: %d, %v, %v, %v", s, part, len(all), end, last, err)
		}
	}
}

func TestWordsRefuses(t *testing.T) { // P12.2: none, the zero one, ErrArg
	for _, s := range states() {
		for _, many := range []int{math.MinInt, -1 << 32, -api.MostWords, -2, -1, api.MostWords + 1, api.MostWords + 2, api.MostWords * 2, 1 << 32, 1<<32 + 1, math.MaxInt} {
			if got, end, err := Words(s, many); len(got) != 0 || end != (State{}) || err != api.ErrArg {
				t.Errorf("Words(%v, %d): %X, %v, %v", s, many, got, end, err)
			}
		}
	}
}

func TestTwoWordsANumber(t *testing.T) { // P12.3
	for _, p := range some(6) {
		s := State{C: p.C, K: p.K}
		if got, want := Step(Step(s)), Jump(s, wide.Of(2)); got != want || got.Second || got.K != p.K {
			t.Errorf("two steps from %v on: %v, not %v", s, got, want)
		}
		if mid := Step(s); mid != (State{p.C, p.K, true}) {
			t.Errorf("a step from %v on: %v", s, mid)
		}
		words, _, _ := Words(s, api.MostWords)
		for i := range api.MostWords / 2 {
			c, _ := wide.Add(p.C, wide.Of(uint64(i)))
			out := philox.Out(Block(c), p.K)
			got := []uint32{uint32(words[2*i]), uint32(words[2*i] >> 32), uint32(words[2*i+1]), uint32(words[2*i+1] >> 32)}
			if !slices.Equal(got, out[:]) {
				t.Errorf("of C %x by %x the words are %X, not %X", c, p.K, got, out)
			}
		}
	}
}

func TestJumpsAddUp(t *testing.T) { // P12.3: over 2^128, too, where 2^128 steps lead on by 2^127 numbers
	all, over := numbers(), 0
	round := new(big.Int).Lsh(big.NewInt(1), 128)
	for i, a := range all {
		for _, b := range []wide.U128{all[len(all)-1-i], all[(7*i+3)%len(all)], most, middle, wide.Of(1)} {
			sum, more := wide.Add(a, b)
			for _, s := range some(101) {
				got, want := Jump(Jump(s, a), b), Jump(s, sum)
				if more {
					over++
					want = behind(want, round)
				}
				if got != want {
					t.Fatalf("from %v on, by %v, then %v: %v, not %v", s, a, b, got, want)
				}
			}
		}
	}
	if over < 100 {
		t.Errorf("only %d sums go over 2^128", over)
	}
}

func TestWayRound(t *testing.T) { // P12.3: 2^129 steps lead round, and 2^128 of them don't
	for _, s := range states() {
		half := Step(Jump(s, most))
		c, _ := wide.Add(s.C, middle)
		if want := (State{c, s.K, s.Second}); half != want {
			t.Errorf("2^128 steps lead from %v to %v, not %v", s, half, want)
		}
		if got := Step(Jump(half, most)); got != s {
			t.Errorf("2^129 steps lead from %v to %v", s, got)
		}
	}
}

func TestDistinctStates(t *testing.T) { // P12.3: of distinct numbers of steps
	steps := map[wide.U128]bool{}
	for _, n := range numbers() {
		steps[n] = true
	}
	for n := range uint64(1000) {
		steps[wide.Of(n)], steps[wide.U128{Hi: n}], steps[wide.U128{Hi: top, Lo: top - n}] = true, true, true
		steps[wide.U128{Hi: 1 << 63, Lo: n}], steps[wide.U128{Hi: 1<<63 - 1, Lo: top - n}] = true, true
	}
	for _, s := range some(61) {
		reached := map[State]wide.U128{}
		for n := range steps {
			state := Jump(s, n)
			if other, twice := reached[state]; twice {
				t.Fatalf("from %v on, %v and %v steps lead to %v", s, n, other, state)
			}
			reached[state] = n
		}
	}
}

func TestDistinctBlocks(t *testing.T) { // P12.3: of distinct numbers, by one key
	all := map[wide.U128]bool{}
	for _, c := range numbers() {
		all[c] = true
	}
	for n := range uint64(3000) {
		for shift := 0; shift < 128; shift += 16 {
			all[wide.Left(wide.Of(n), shift)] = true
		}
	}
	for _, k := range keys() {
		from, told := map[philox.Block]wide.U128{}, map[[2]uint64]wide.U128{}
		for c := range all {
			b, words := Block(c), [2]uint64{Word(State{c, k, false}), Word(State{c, k, true})}
			if other, twice := from[b]; twice {
				t.Fatalf("%x and %x have the block %x", c, other, b)
			}
			if other, twice := told[words]; twice {
				t.Fatalf("by %x, %x and %x have the words %X", k, c, other, words)
			}
			from[b], told[words] = c, c
		}
	}
}

// answers is all that the package answers of a state, a block, a number of steps and a number of words.
type answers struct {
	block          philox.Block
	number         wide.U128
	word           uint64
	next, back, to State
	end            State
	err            api.Errno
}

// ask tells all answers, and the list of words.
func ask(s *State, b *philox.Block, n *wide.U128, many *int) (answers, []uint64) {
	words, end, err := Words(*s, *many)
	return answers{Block(s.C), Number(*b), Word(*s), Step(*s), Back(*s), Jump(*s, *n), end, err}, words
}

func TestSameCallsSameAnswers(t *testing.T) { // P12.1, P12.2: R3 to R5; each list is one of its own
	all, rows := states(), blocks()
	for i, s := range all {
		for _, many := range []int{-1, 0, 9, api.MostWords, api.MostWords + 1} {
			a, b, n, m := s, rows[i%len(rows)], wide.U128{Hi: s.C.Lo, Lo: ^s.C.Hi}, many
			other, otherBlock := all[len(all)-1-i], rows[(i+1)%len(rows)]
			keptBlock, keptSteps, keptOther, keptOtherBlock := b, n, other, otherBlock
			first, words := ask(&a, &b, &n, &m)
			kept := slices.Clone(words)
			for j := range words[:cap(words)] {
				words[:cap(words)][j] = 0xDEAD
			}
			ask(&other, &otherBlock, &n, &m)
			again, wordsAgain := ask(&a, &b, &n, &m)
			if again != first || !slices.Equal(wordsAgain, kept) {
				t.Errorf("%v, %v, %v, %d: %v, %X, then %v, %X", s, b, n, many, first, kept, again, wordsAgain)
			}
			if a != s || b != keptBlock || n != keptSteps || m != many || other != keptOther || otherBlock != keptOtherBlock {
				t.Errorf("an argument was changed: %v, %v, %v, %d, %v, %v", a, b, n, m, other, otherBlock)
			}
		}
	}
}
