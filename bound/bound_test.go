package bound

import (
	"math"
	"math/big"
	"math/rand/v2"
	"slices"
	"testing"

	"knucklebone/api"
	"knucklebone/gen"
	"knucklebone/mix"
	"knucklebone/span"
	"knucklebone/stream"
	"knucklebone/wide"
)

const top = math.MaxUint64

// half is the bound by which the most words aren't taken: nearly each second one.
const half = 1<<63 + 1

// kinds tells all four.
func kinds() []int { return []int{api.Mix, api.Xosh, api.Pcg, api.Philox} }

// bounds tells bounds that aren't 0: small ones, powers of 2 and those beside them, great ones, and others of all lengths.
func bounds() []uint64 {
	l := []uint64{1, 2, 3, 4, 5, 6, 7, 9, 10, 11, 12, 100, 255, 256, 257, 641, 1000, 6700417, top / 2, top / 3, top/3 + 1, top/3 + 2, top / 5, top - 1, top - 2, top - 3, top}
	for i := range 64 {
		power := uint64(1) << i
		l = append(l, power, power+1, max(power-1, 1), power|power>>1)
	}
	r := rand.New(rand.NewPCG(18, 1))
	for i := range 128 {
		l = append(l, r.Uint64()>>(i%64)|1, max(r.Uint64()>>(i%64), 1))
	}
	return l
}

// someBounds tells few of them.
func someBounds() []uint64 {
	return []uint64{1, 2, 3, 5, 6, 10, 255, 256, 1<<32 - 1, 1 << 32, 1<<32 + 1, 1<<63 - 1, 1 << 63, half, half + 1, 3 << 62, top - 1, top}
}

// number tells a word as one of the library's numbers.
func number(n uint64) *big.Int { return new(big.Int).SetUint64(n) }

// all tells 2^64.
func all() *big.Int { return new(big.Int).Lsh(big.NewInt(1), 64) }

// over tells 2^64 modulo b.
func over(b uint64) uint64 { return new(big.Int).Mod(all(), number(b)).Uint64() }

// each tells 2^64 by b, down.
func each(b uint64) *big.Int { return new(big.Int).Div(all(), number(b)) }

// product tells the high and the low word of x times b.
func product(x, b uint64) (uint64, uint64) {
	hi, lo := new(big.Int).DivMod(new(big.Int).Mul(number(x), number(b)), all(), new(big.Int))
	return hi.Uint64(), lo.Uint64()
}

// tells is Accept by the chapter's words.
func tells(x, b uint64) (uint64, bool) {
	if b == 0 {
		return 0, false
	}
	hi, lo := product(x, b)
	if lo < over(b) {
		return 0, false
	}
	return hi, true
}

// withLow tells a word whose product with b has that low word, if there is one: above its 0s at the end a b has an inverse modulo 2^64.
func withLow(low, b uint64) (uint64, bool) {
	zeros := uint(number(b).TrailingZeroBits())
	if low&(1<<zeros-1) != 0 {
		return 0, false
	}
	turn := new(big.Int).ModInverse(number(b>>zeros), all())
	return turn.Mul(turn, number(low>>zeros)).And(turn, number(top)).Uint64(), true
}

// edges tells words whose product has a low word at the edge of what is taken: 2^64 modulo b, and those next to it that there are.
func edges(b uint64) []uint64 {
	l := []uint64{}
	step := b & -b
	for _, low := range []uint64{over(b), over(b) - 1, over(b) + 1, over(b) - step, over(b) + step, 0, step, top, -step} {
		if x, ok := withLow(low, b); ok {
			l = append(l, x, x^1<<63)
		}
	}
	return l
}

// words tells words for a bound: 0, 1 and the greatest ones, edges, and others that are the same in each run.
func words(b uint64) []uint64 {
	l := append([]uint64{0, 1, 2, 3, 1<<63 - 1, 1 << 63, 1<<63 + 1, top - 2, top - 1, top}, edges(b)...)
	l = append(l, b, b-1, -b, top/b, top/b+1, top/b-1)
	r := rand.New(rand.NewPCG(18, 2))
	for i := range 32 {
		l = append(l, r.Uint64()>>(2*i%64))
	}
	return l
}

// values tells numbers below a bound: the first and the last ones, those about the middle, and others.
func values(b uint64) []uint64 {
	l := []uint64{}
	for _, v := range []uint64{0, 1, 2, b - 1, b - 2, b - 3, b / 2, b/2 + 1, b / 3, 2 * (b / 3), b / 7} {
		if v < b {
			l = append(l, v)
		}
	}
	r := rand.New(rand.NewPCG(18, 3))
	for range 20 {
		l = append(l, r.Uint64()%b)
	}
	return l
}

func TestExamples(t *testing.T) { // P18.1: the chapter's, and the document's: by the bound 3 the word 0 isn't taken; 1 tells 0
	for _, c := range []struct {
		x, b, v uint64
		taken   bool
	}{
		{1<<63 + 1, 6, 3, true},
		{0, 3, 0, false},
		{1, 3, 0, true},
	} {
		if v, taken := Accept(c.x, c.b); v != c.v || taken != c.taken {
			t.Errorf("Accept(%d, %d): %d, %v", c.x, c.b, v, taken)
		}
	}
}

func TestAccept(t *testing.T) { // P18.1: as the chapter's words say it
	for _, b := range bounds() {
		for _, x := range words(b) {
			want, wantTaken := tells(x, b)
			if v, taken := Accept(x, b); v != want || taken != wantTaken {
				t.Errorf("Accept(%d, %d): %d, %v, not %d, %v", x, b, v, taken, want, wantTaken)
			}
		}
	}
}

func TestAcceptBy0(t *testing.T) { // P18.1: 0, false, of each word
	for _, b := range bounds() {
		for _, x := range append(words(b), b) {
			if v, taken := Accept(x, 0); v != 0 || taken {
				t.Errorf("Accept(%d, 0): %d, %v", x, v, taken)
			}
		}
	}
}

func TestAcceptAtTheEdge(t *testing.T) { // P18.1: low words of the product that are 2^64 modulo b are taken, and those above; not those below
	below := 0
	for _, b := range bounds() {
		if b%2 == 0 {
			continue
		}
		for _, low := range []uint64{over(b), over(b) + 1, top} {
			x, _ := withLow(low, b)
			hi, _ := product(x, b)
			if v, taken := Accept(x, b); v != hi || !taken {
				t.Errorf("Accept(%d, %d), of the low word %d: %d, %v", x, b, low, v, taken)
			}
		}
		for _, low := range []uint64{over(b) - 1, 0, over(b) / 2} {
			// By 1 nothing is below 2^64 modulo it.
			if low >= over(b) {
				continue
			}
			x, _ := withLow(low, b)
			if hi, _ := product(x, b); hi > 0 {
				below++
			}
			if v, taken := Accept(x, b); v != 0 || taken {
				t.Errorf("Accept(%d, %d), of the low word %d: %d, %v", x, b, low, v, taken)
			}
		}
	}
	if below < 50 {
		t.Errorf("of the words that aren't taken but %d have a high word that isn't 0", below)
	}
}

func TestAcceptWrittenOut(t *testing.T) { // P18.1: worked out by hand
	for _, c := range []struct {
		x, b, v uint64
		taken   bool
	}{
		{0, 1, 0, true},
		{top, 1, 0, true},
		{0, 2, 0, true},
		{1<<63 - 1, 2, 0, true},
		{1 << 63, 2, 1, true},
		{top, 2, 1, true},
		{0x5555555555555555, 3, 0, true},
		{0x5555555555555556, 3, 1, true},
		{0xAAAAAAAAAAAAAAAA, 3, 1, true},
		{0xAAAAAAAAAAAAAAAB, 3, 2, true},
		{top, 3, 2, true},
		{0, 6, 0, false},
		{1, 6, 0, true},
		{1 << 63, 6, 0, false},
		{0, 256, 0, true},
		{top, 256, 255, true},
		{0x7FFFFFFFFFFFFFFF, 1 << 63, 1<<62 - 1, true},
		{1, 1 << 63, 0, true},
		{2, 1 << 63, 1, true},
		{0, half, 0, false},
		{1, half, 0, true},
		{2, half, 0, false},
		{3, half, 1, true},
		{1 << 63, half, 1 << 62, true},
		{1<<63 + 1, half, 0, false},
		{top - 1, half, 1<<63 - 1, true},
		{top - 2, half, 0, false},
		{top, half, 1 << 63, true},
		{0, top, 0, false},
		{1, top, 0, true},
		{2, top, 1, true},
		{top, top, top - 1, true},
		{0, top - 1, 0, false},
		{1, top - 1, 0, true},
		{1<<63 - 1, top - 1, 1<<63 - 2, true},
		{1 << 63, top - 1, 0, false},
		{1<<63 + 1, top - 1, 1<<63 - 1, true},
		{top, top - 1, top - 2, true},
	} {
		if v, taken := Accept(c.x, c.b); v != c.v || taken != c.taken {
			t.Errorf("Accept(%d, %d): %d, %v, not %d, %v", c.x, c.b, v, taken, c.v, c.taken)
		}
	}
}

func TestAcceptByPowers(t *testing.T) { // P18.1: by a power of 2 each word is taken, and tells its highest bits
	for i := range 64 {
		b := uint64(1) << i
		for _, x := range words(b) {
			want := x >> 1 >> (63 - i)
			if v, taken := Accept(x, b); v != want || !taken {
				t.Errorf("Accept(%d, 2^%d): %d, %v, not %d", x, i, v, taken, want)
			}
		}
	}
}

// rows tells the least and the greatest word that is taken and tells v, by the chapter's words: their products with b are from v times 2^64 and 2^64 modulo b on, and below v and 1 times 2^64.
func rows(v, b uint64) (uint64, uint64) {
	first := new(big.Int).Lsh(number(v), 64)
	last := new(big.Int).Add(first, number(top))
	first.Add(first, number(over(b)))
	// A part up is one down of b less 1 more.
	first.Add(first, number(b-1))
	return first.Div(first, number(b)).Uint64(), last.Div(last, number(b)).Uint64()
}

func TestRange(t *testing.T) { // P18.1: of the first and the last numbers, and of others
	for _, b := range bounds() {
		for _, v := range values(b) {
			first, last := rows(v, b)
			if least, greatest, err := Range(v, b); least != first || greatest != last || err != api.OK {
				t.Errorf("Range(%d, %d): %d, %d, %v, not %d, %d", v, b, least, greatest, err, first, last)
			}
		}
	}
}

func TestRangeWrittenOut(t *testing.T) { // P18.1: worked out by hand
	for _, c := range []struct{ v, b, least, greatest uint64 }{
		{0, 1, 0, top},
		{0, 2, 0, 1<<63 - 1},
		{1, 2, 1 << 63, top},
		{0, 3, 1, 0x5555555555555555},
		{1, 3, 0x5555555555555556, 0xAAAAAAAAAAAAAAAA},
		{2, 3, 0xAAAAAAAAAAAAAAAB, top},
		{0, 6, 1, 0x2AAAAAAAAAAAAAAA},
		{2, 6, 0x5555555555555556, 0x7FFFFFFFFFFFFFFF},
		{3, 6, 0x8000000000000001, 0xAAAAAAAAAAAAAAAA},
		{5, 6, 0xD555555555555556, top},
		{0, 1 << 63, 0, 1},
		{1<<63 - 1, 1 << 63, top - 1, top},
		{0, half, 1, 1},
		{1, half, 3, 3},
		{1 << 62, half, 1 << 63, 1 << 63},
		{1<<63 - 1, half, top - 1, top - 1},
		{1 << 63, half, top, top},
		{0, top, 1, 1},
		{7, top, 8, 8},
		{top - 1, top, top, top},
		{1<<63 - 2, top - 1, 1<<63 - 1, 1<<63 - 1},
		{1<<63 - 1, top - 1, 1<<63 + 1, 1<<63 + 1},
		{top - 2, top - 1, top, top},
	} {
		if least, greatest, err := Range(c.v, c.b); least != c.least || greatest != c.greatest || err != api.OK {
			t.Errorf("Range(%d, %d): %d, %d, %v, not %d, %d", c.v, c.b, least, greatest, err, c.least, c.greatest)
		}
	}
}

func TestRangeEnds(t *testing.T) { // P18.1: both ends are taken and tell v, and the words beside them aren't, or tell another number
	for _, b := range bounds() {
		for _, v := range values(b) {
			least, greatest, err := Range(v, b)
			if err != api.OK || least > greatest {
				t.Errorf("Range(%d, %d): %d, %d, %v", v, b, least, greatest, err)
				continue
			}
			for _, x := range []uint64{least, greatest, least + (greatest-least)/2, least + (greatest-least)/3} {
				if got, taken := Accept(x, b); got != v || !taken {
					t.Errorf("Range(%d, %d): %d, %d, but %d tells %d, %v", v, b, least, greatest, x, got, taken)
				}
			}
			if got, taken := Accept(least-1, b); least > 0 && taken && got == v {
				t.Errorf("Range(%d, %d): %d, but the word ahead tells it, too", v, b, least)
			}
			if got, taken := Accept(greatest+1, b); greatest < top && taken && got == v {
				t.Errorf("Range(%d, %d): to %d, but the word behind tells it, too", v, b, greatest)
			}
		}
	}
}

func TestRangeRefuses(t *testing.T) { // P18.1: b 0, ahead of v that isn't below it; v at b, and above it; no words beside an error
	for _, v := range append(words(3), bounds()...) {
		if least, greatest, err := Range(v, 0); least != 0 || greatest != 0 || err != api.ErrZero {
			t.Errorf("Range(%d, 0): %d, %d, %v", v, least, greatest, err)
		}
	}
	for _, b := range bounds() {
		for _, v := range []uint64{b, b + 1, b + 2, 2 * b, b | 1<<63, top - 1, top} {
			if v < b {
				continue
			}
			if least, greatest, err := Range(v, b); least != 0 || greatest != 0 || err != api.ErrArg {
				t.Errorf("Range(%d, %d): %d, %d, %v", v, b, least, greatest, err)
			}
		}
	}
}

func TestJustAsMany(t *testing.T) { // P18.4: each number is told by 2^64 by b words, down
	for _, b := range bounds() {
		for _, v := range values(b) {
			least, greatest, err := Range(v, b)
			many := new(big.Int).Sub(number(greatest), number(least))
			many.Add(many, big.NewInt(1))
			if err != api.OK || many.Cmp(each(b)) != 0 {
				t.Errorf("Range(%d, %d): %d, %d, %v: %v words, not %v", v, b, least, greatest, err, many, each(b))
			}
		}
	}
}

func TestRowsPartTheWords(t *testing.T) { // P18.4: rows stand one behind the other; between them are just the words that aren't taken
	for b := uint64(1); b <= 600; b++ {
		next, left := new(big.Int), new(big.Int)
		for v := range b {
			least, greatest, err := Range(v, b)
			if err != api.OK || number(least).Cmp(next) < 0 || greatest < least {
				t.Fatalf("Range(%d, %d): %d, %d, %v; words below %v are told already", v, b, least, greatest, err, next)
			}
			gap := new(big.Int).Sub(number(least), next)
			if gap.Cmp(big.NewInt(1)) > 0 {
				t.Errorf("by %d, ahead of the row of %d, %v words aren't taken", b, v, gap)
			}
			left.Add(left, gap)
			if got, taken := Accept(next.Uint64(), b); taken != (gap.Sign() == 0) || taken && got != v {
				t.Errorf("Accept(%v, %d): %d, %v; the row of %d is from %d on", next, b, got, taken, v, least)
			}
			next.Add(number(greatest), big.NewInt(1))
		}
		left.Add(left, new(big.Int).Sub(all(), next))
		if left.Cmp(number(over(b))) != 0 {
			t.Errorf("by %d %v words aren't taken, not %d", b, left, over(b))
		}
	}
}

func TestWordsAreInTheirRows(t *testing.T) { // P18.1, P18.4: a word is taken, just if it stands in the row of what it tells
	for _, b := range bounds() {
		for _, x := range words(b) {
			v, _ := product(x, b)
			least, greatest, err := Range(v, b)
			if err != api.OK {
				t.Errorf("Range(%d, %d): %v", v, b, err)
			}
			if _, taken := Accept(x, b); taken != (least <= x && x <= greatest) {
				t.Errorf("Accept(%d, %d): %v, but the row of %d is %d to %d", x, b, taken, v, least, greatest)
			}
		}
	}
}

func TestRunsOfGreatBounds(t *testing.T) { // P18.4: word for word: of each number that is told as many, one behind the other
	for _, b := range []uint64{1<<61 + 1, top / 5, top / 3, top/3 + 1, top/3 + 2, 1 << 62, 1<<62 + 1, 3 << 61, 1<<63 - 1, 1 << 63, half, half + 1, 3<<62 + 7, top - 1, top} {
		for _, from := range []uint64{0, 1 << 40, 1<<63 - 300, top - 3000} {
			told := []uint64{}
			for i := range uint64(3001) {
				if v, taken := Accept(from+i, b); taken {
					told = append(told, v)
				}
			}
			if !slices.IsSorted(told) || len(told) == 0 {
				t.Fatalf("by %d, from %d on: not in rows", b, from)
			}
			many := map[uint64]uint64{}
			for _, v := range told {
				many[v]++
			}
			first, last := told[0], told[len(told)-1]
			// Of the first and the last row a part may lie outside.
			for v := first + 1; v < last; v++ {
				if many[v] != each(b).Uint64() {
					t.Errorf("by %d, from %d on: %d is told by %d words, not %v", b, from, v, many[v], each(b))
				}
			}
		}
	}
}

// open tells a new stream.
func open(t *testing.T, kind int, seed uint64, from wide.U128, many uint64) *stream.Stream {
	t.Helper()
	to, _ := wide.Add(from, wide.Of(many))
	s, err := stream.New(kind, seed, span.Span{From: from, To: to})
	if err != api.OK {
		t.Fatalf("kind %d, %X, %v, %d: %v", kind, seed, from, many, err)
	}
	return s
}

// froms tells places of a kind from which streams of so many words may go.
func froms(kind int, many uint64) []wide.U128 {
	last, _ := wide.Sub(gen.Limit(kind), wide.Of(many))
	l := []wide.U128{{}, wide.Of(5), wide.Of(1<<62 + 1), last}
	if kind != api.Mix {
		l = append(l, wide.Of(top-3), wide.U128{Hi: 6, Lo: 7})
	}
	return l
}

// isAt tells whether a stream is as another one, in all that can be asked.
func isAt(s, as *stream.Stream) bool {
	c, d := s.Cursor(), as.Cursor()
	return s.Allotment() == as.Allotment() && c.Kind() == d.Kind() && c.Seed() == d.Seed() && c.State() == d.State() && slices.Equal(c.Buffered(), d.Buffered())
}

// next is Next by the chapter's words.
func next(s *stream.Stream, b uint64) (uint64, api.Errno) {
	for s.Left() != (wide.U128{}) {
		x, err := s.Uint64()
		if err != api.OK {
			return 0, err
		}
		if v, taken := tells(x, b); taken {
			return v, api.OK
		}
	}
	return 0, api.ErrExhausted
}

// perm is Perm by the chapter's words.
func perm(s *stream.Stream, n int) ([]int, api.Errno) {
	row := []int{}
	for i := range n {
		row = append(row, i)
	}
	for i := n - 1; i > 0; i-- {
		v, err := next(s, uint64(i+1))
		if err != api.OK {
			return nil, err
		}
		was := row[i]
		row[i] = row[v]
		row[v] = was
	}
	return row, api.OK
}

// nextOn asks both for the next number, and tells whether they are the same, and stand the same.
func nextOn(t *testing.T, s, m *stream.Stream, b uint64, what string) bool {
	t.Helper()
	had := m.Allotment()
	want, wantErr := next(m, b)
	got, err := Next(s, b)
	if got != want || err != wantErr || !isAt(s, m) {
		t.Errorf("%s: at %v, Next by %d: %d, %v, and at %v, not %d, %v, and at %v", what, had, b, got, err, s.Allotment(), want, wantErr, m.Allotment())
		return false
	}
	return true
}

// permOn asks both for numbers in some order.
func permOn(t *testing.T, s, m *stream.Stream, n int, what string) bool {
	t.Helper()
	had := m.Allotment()
	want, wantErr := perm(m, n)
	got, err := Perm(s, n)
	if !slices.Equal(got, want) || err != wantErr || !isAt(s, m) || err != api.OK && got != nil {
		t.Errorf("%s: at %v, Perm of %d: %v, %v, and at %v, not %v, %v, and at %v", what, had, n, got, err, s.Allotment(), want, wantErr, m.Allotment())
		return false
	}
	return true
}

// seedOf tells the seed of SplitMix64 whose word at a place is that one.
func seedOf(word, place uint64) uint64 { return mix.Unmix(word) - (place+1)*mix.Gamma }

func TestNext(t *testing.T) { // P18.2: of each kind, by bounds one behind the other, till nothing is left, and beyond
	for _, kind := range kinds() {
		for _, from := range froms(kind, 60) {
			for _, b := range someBounds() {
				s := open(t, kind, 81, from, 60)
				for m := s.Copy(); nextOn(t, s, m, b, "by one bound") && m.Left() != (wide.U128{}); {
				}
				m := s.Copy()
				nextOn(t, s, m, b, "at the end")
			}
			s := open(t, kind, 82, from, 60)
			m := s.Copy()
			for i := range 40 {
				nextOn(t, s, m, someBounds()[i%len(someBounds())], "by all bounds")
			}
		}
	}
}

func TestNextWrittenOut(t *testing.T) { // P18.2: SplitMix64 of the seed 0; by the second bound some words aren't taken
	s := open(t, api.Mix, 0, wide.Of(0), 100)
	for i, want := range []uint64{5, 2, 0, 5, 0, 1, 1, 4, 1, 5} {
		if v, err := Next(s, 6); v != want || err != api.OK || s.Cursor().Place() != wide.Of(uint64(i)+1) {
			t.Errorf("by 6, %d: %d, %v, at %v", i, v, err, s.Cursor().Place())
		}
	}
	s = open(t, api.Mix, 0, wide.Of(0), 100)
	for i, c := range []struct{ v, at uint64 }{
		{243808509735772839, 3}, {8954805688390271222, 4}, {980875101213047373, 5}, {1603648013000153456, 7},
		{7116260932800173470, 8}, {2266080580496311649, 9}, {8780933256989530195, 10}, {3656771639923220100, 11},
	} {
		if v, err := Next(s, half); v != c.v || err != api.OK || s.Cursor().Place() != wide.Of(c.at) {
			t.Errorf("by 2^63 + 1, %d: %d, %v, at %v", i, v, err, s.Cursor().Place())
		}
	}
}

func TestNextOfChosenWords(t *testing.T) { // P18.2: the first word at the edge of what is taken, and only one or two words left
	for _, b := range bounds() {
		for _, x := range words(b) {
			for left := range uint64(3) {
				s := open(t, api.Mix, seedOf(x, 7), wide.Of(7), left)
				m := s.Copy()
				if w, err := s.Copy().Uint64(); left > 0 && (w != x || err != api.OK) {
					t.Fatalf("the word %d is %d, %v", x, w, err)
				}
				nextOn(t, s, m, b, "of a chosen word")
			}
		}
	}
}

func TestNextRefuses(t *testing.T) { // P18.2: no stream, ahead of b 0; b 0, ahead of nothing left; nothing of the stream has changed
	for _, b := range append(bounds(), 0) {
		if v, err := Next(nil, b); v != 0 || err != api.ErrArg {
			t.Errorf("Next(nil, %d): %d, %v", b, v, err)
		}
	}
	for _, kind := range kinds() {
		for _, left := range []uint64{0, 1, 2, 9, 20} {
			s := open(t, kind, 83, wide.Of(44), left+3)
			// With words that were made ahead, and without.
			for range 3 {
				_, _ = s.Uint64()
				m := s.Copy()
				if v, err := Next(s, 0); v != 0 || err != api.ErrZero || !isAt(s, m) {
					t.Errorf("kind %d: Next by 0: %d, %v, at %v, not %v", kind, v, err, s.Allotment(), m.Allotment())
				}
			}
			s = open(t, kind, 83, wide.Of(44), left)
			m := s.Copy()
			if v, err := Next(s, 0); v != 0 || err != api.ErrZero || !isAt(s, m) {
				t.Errorf("kind %d: Next by 0: %d, %v, at %v, not %v", kind, v, err, s.Allotment(), m.Allotment())
			}
		}
	}
}

func TestNextOfNothingLeft(t *testing.T) { // P18.2: ErrExhausted by each bound, again and again
	for _, kind := range kinds() {
		for _, from := range froms(kind, 0) {
			s := open(t, kind, 84, from, 0)
			for _, b := range bounds() {
				m := s.Copy()
				if v, err := Next(s, b); v != 0 || err != api.ErrExhausted || !isAt(s, m) {
					t.Errorf("kind %d, at %v: Next by %d: %d, %v", kind, from, b, v, err)
				}
			}
		}
	}
}

// refused tells how many words from a stream's place on aren't taken, till one is.
func refused(t *testing.T, s *stream.Stream, b uint64) uint64 {
	t.Helper()
	for c, n := s.Cursor(), uint64(0); n < 1000; n++ {
		x, err := c.Next()
		if err != api.OK {
			t.Fatal(err)
		}
		if _, taken := tells(x, b); taken {
			return n
		}
	}
	t.Fatalf("by %d 1000 words aren't taken", b)
	return 0
}

func TestNextUsesJustEnough(t *testing.T) { // P18.2: the words up to the first that is taken, with more left, and with just these; with one less ErrExhausted, and nothing left
	for _, kind := range kinds() {
		for _, b := range []uint64{half, half + 1, 1<<62 + 1, 3<<61 + 1, top / 3 * 2} {
			seen := map[uint64]int{}
			for place := range uint64(400) {
				from := wide.Of(1000 + place)
				s := open(t, kind, 85, from, 40)
				n := refused(t, s, b)
				seen[n]++
				x, _ := stream.New(kind, 85, span.Span{From: wide.Of(1000 + place + n), To: wide.Of(1000 + place + n + 1)})
				word, _ := x.Uint64()
				want, _ := product(word, b)
				just, less := open(t, kind, 85, from, n+1), open(t, kind, 85, from, n)
				if v, err := Next(s, b); v != want || err != api.OK || s.Left() != wide.Of(40-n-1) {
					t.Errorf("kind %d, from %v: Next by %d: %d, %v, not %d, and %v are left, not %d", kind, from, b, v, err, want, s.Left(), 40-n-1)
				}
				if v, err := Next(just, b); v != want || err != api.OK || just.Left() != (wide.U128{}) {
					t.Errorf("kind %d, from %v: Next by %d: %d, %v, not %d, and %v are left", kind, from, b, v, err, want, just.Left())
				}
				end := less.Allotment().To
				if v, err := Next(less, b); v != 0 || err != api.ErrExhausted || less.Allotment() != (span.Span{From: end, To: end}) {
					t.Errorf("kind %d, from %v: Next by %d: %d, %v, at %v, where %d words are left", kind, from, b, v, err, less.Allotment(), n)
				}
			}
			if seen[0] < 20 || seen[1] < 20 || seen[2] == 0 || seen[3] == 0 {
				t.Errorf("kind %d, by %d: words that aren't taken: %v", kind, b, seen)
			}
		}
	}
}

func TestNextIsOfTheStream(t *testing.T) { // P18.2, R4: words that the stream tells otherwise are as good; its cursor and copies go on apart
	for _, kind := range kinds() {
		s := open(t, kind, 86, wide.Of(3), 200)
		m := s.Copy()
		for i := range 25 {
			apart, was := s.Copy(), s.Copy()
			nextOn(t, s, m, someBounds()[i%len(someBounds())], "ahead")
			if !isAt(apart, was) {
				t.Errorf("kind %d: Next changed a copy", kind)
			}
			w, err := s.Uint64()
			want, _ := m.Uint64()
			if w != want || err != api.OK {
				t.Errorf("kind %d: the word behind Next is %X, %v, not %X", kind, w, err, want)
			}
			if errS, errM := s.Skip(wide.Of(uint64(i%3))), m.Skip(wide.Of(uint64(i%3))); errS != errM {
				t.Errorf("kind %d: %v, not %v", kind, errS, errM)
			}
		}
	}
}

func TestNextBelowItsBound(t *testing.T) { // P18.2, P18.4: each number below a small bound is told about as often, and none that isn't below it
	for _, kind := range kinds() {
		for b := uint64(1); b <= 12; b++ {
			s := open(t, kind, 87, wide.Of(9), 6000)
			many := make([]int, b)
			for range 6000 {
				v, err := Next(s, b)
				if err != api.OK || v >= b {
					t.Fatalf("kind %d: Next by %d: %d, %v", kind, b, v, err)
				}
				many[v]++
			}
			for v, n := range many {
				if mean := 6000 / int(b); n < mean*3/4 || n > mean*5/4 {
					t.Errorf("kind %d, by %d: %d is told %d times", kind, b, v, n)
				}
			}
		}
	}
}

// lengths tells how many numbers may be asked for.
func lengths() []int {
	return []int{0, 1, 2, 3, 4, 5, 6, 7, 8, 9, 10, 16, 17, 31, 32, 33, 64, 100, 127, 128, 129, 254, 255, api.MostWords}
}

func TestPerm(t *testing.T) { // P18.3: of each kind and length, with words left and without, one behind the other
	for _, kind := range kinds() {
		for _, from := range froms(kind, 700) {
			for _, n := range lengths() {
				s := open(t, kind, 88, from, 700)
				m := s.Copy()
				permOn(t, s, m, n, "the first")
				permOn(t, s, m, n, "the second")
				nextOn(t, s, m, half, "behind them")
				permOn(t, s, m, n, "the third")
			}
		}
	}
}

func TestPermWrittenOut(t *testing.T) { // P18.3: SplitMix64 of small seeds; of the last two a word, the second and the fourth one, is 0, and isn't taken
	gamma := uint64(mix.Gamma)
	for _, c := range []struct {
		seed uint64
		row  []int
		used uint64
	}{
		{0, []int{}, 0},
		{0, []int{0}, 0},
		{0, []int{0, 1}, 1},
		{0, []int{1, 0, 2}, 2},
		{0, []int{2, 0, 1, 3}, 3},
		{3, []int{3, 1, 2, 0}, 3},
		{7, []int{2, 3, 0, 1}, 3},
		{0, []int{2, 3, 0, 1, 4}, 4},
		{0, []int{4, 9, 2, 5, 1, 7, 6, 0, 3, 8}, 9},
		{0, []int{13, 4, 7, 5, 10, 2, 8, 9, 15, 11, 3, 1, 12, 0, 6, 14}, 15},
		{-gamma, []int{1, 0, 2}, 3},
		{-(4 * gamma), []int{4, 3, 5, 0, 1, 2}, 6},
	} {
		s := open(t, api.Mix, c.seed, wide.Of(0), 100)
		if row, err := Perm(s, len(c.row)); !slices.Equal(row, c.row) || err != api.OK || s.Cursor().Place() != wide.Of(c.used) {
			t.Errorf("seed %X, Perm of %d: %v, %v, at %v", c.seed, len(c.row), row, err, s.Cursor().Place())
		}
	}
}

func TestPermOfTwo(t *testing.T) { // P18.3: by a word's highest bit: 0 tells 0, and so they are changed for each other
	for _, c := range []struct {
		word uint64
		row  []int
	}{
		{0, []int{1, 0}},
		{1, []int{1, 0}},
		{1<<63 - 1, []int{1, 0}},
		{1 << 63, []int{0, 1}},
		{top, []int{0, 1}},
	} {
		s := open(t, api.Mix, seedOf(c.word, 50), wide.Of(50), 1)
		if row, err := Perm(s, 2); !slices.Equal(row, c.row) || err != api.OK || s.Left() != (wide.U128{}) {
			t.Errorf("of the word %X: %v, %v, and %v are left", c.word, row, err, s.Left())
		}
	}
}

func TestPermOfNoneAndOne(t *testing.T) { // P18.3: no word is used, so none need be left
	for _, kind := range kinds() {
		for left := range uint64(3) {
			for n := range 2 {
				s := open(t, kind, 89, wide.Of(77), left)
				m := s.Copy()
				if row, err := Perm(s, n); len(row) != n || n == 1 && row[0] != 0 || err != api.OK || !isAt(s, m) {
					t.Errorf("kind %d: Perm of %d: %v, %v, at %v", kind, n, row, err, s.Allotment())
				}
			}
		}
	}
}

// wrongLengths tells lengths that Perm refuses.
func wrongLengths() []int {
	return []int{math.MinInt, math.MinInt + 1, -1 << 32, -257, -256, -255, -2, -1, api.MostWords + 1, api.MostWords + 2, 512, 1 << 16, 1 << 32, 1<<32 + 5, math.MaxInt - 1, math.MaxInt}
}

func TestPermRefuses(t *testing.T) { // P18.3: no stream, ahead of a length that is wrong; that, ahead of too few words; nothing of the stream has changed
	for _, n := range append(wrongLengths(), lengths()...) {
		if row, err := Perm(nil, n); row != nil || err != api.ErrArg {
			t.Errorf("Perm(nil, %d): %v, %v", n, row, err)
		}
	}
	for _, kind := range kinds() {
		for _, left := range []uint64{0, 1, 5, 300, 600} {
			for used := range uint64(2) {
				s := open(t, kind, 90, wide.Of(12), left+used)
				for range used {
					_, _ = s.Uint64()
				}
				m := s.Copy()
				for _, n := range wrongLengths() {
					if row, err := Perm(s, n); row != nil || err != api.ErrLong || !isAt(s, m) {
						t.Errorf("kind %d: Perm of %d: %v, %v, at %v", kind, n, row, err, s.Allotment())
					}
				}
				permOn(t, s, m, 4, "behind it")
			}
		}
	}
}

func TestPermUsesJustEnough(t *testing.T) { // P18.3: with as many words left as are needed; with fewer ErrExhausted, no row, and nothing left
	for _, kind := range kinds() {
		for n := 2; n <= api.MostWords; n++ {
			need := uint64(n) - 1
			many := open(t, kind, 91, wide.Of(30), 400)
			want, err := Perm(many, n)
			if err != api.OK || many.Left() != wide.Of(400-need) {
				t.Fatalf("kind %d: Perm of %d: %v, and %v are left", kind, n, err, many.Left())
			}
			s := open(t, kind, 91, wide.Of(30), need)
			if row, err := Perm(s, n); !slices.Equal(row, want) || err != api.OK || s.Left() != (wide.U128{}) {
				t.Errorf("kind %d: Perm of %d by %d words: %v, %v, and %v are left", kind, n, need, row, err, s.Left())
			}
			for _, left := range []uint64{need - 1, need / 2, 0} {
				if left >= need {
					continue
				}
				s := open(t, kind, 91, wide.Of(30), left)
				end := s.Allotment().To
				if row, err := Perm(s, n); row != nil || err != api.ErrExhausted || s.Allotment() != (span.Span{From: end, To: end}) {
					t.Errorf("kind %d: Perm of %d by %d words: %v, %v, at %v", kind, n, left, row, err, s.Allotment())
				}
			}
		}
	}
}

func TestPermPassesWordsNotTaken(t *testing.T) { // P18.3: a word 0 isn't taken where the bound is no power of 2: one more is needed, wherever it comes
	for n := 2; n <= 40; n++ {
		for at := range uint64(n - 1) {
			b := uint64(n) - at
			need := uint64(n) - 1
			if b&(b-1) != 0 {
				need++
			}
			seed := seedOf(0, 20+at)
			for _, left := range []uint64{need + 5, need, need - 1} {
				s := open(t, api.Mix, seed, wide.Of(20), left)
				m := s.Copy()
				permOn(t, s, m, n, "with a word 0")
				if used := s.Cursor().Place(); used != wide.Of(20+min(need, left)) {
					t.Errorf("Perm of %d, the word %d is 0, %d are left: at %v", n, at, left, used)
				}
			}
		}
	}
}

func TestPermHasEachOnce(t *testing.T) { // P18.3: each number from 0 to n less 1 just once; and two streams that stand the same tell the same
	for _, kind := range kinds() {
		for n := range api.MostWords + 1 {
			s := open(t, kind, uint64(n)*77, wide.Of(6), 900)
			other := open(t, kind, uint64(n)*77, wide.Of(6), 900)
			for round := range 3 {
				d := s.Copy()
				row, err := Perm(s, n)
				of, errOf := Perm(d, n)
				as, errAs := Perm(other, n)
				if err != api.OK || errOf != api.OK || errAs != api.OK || !slices.Equal(row, of) || !slices.Equal(row, as) || !isAt(s, d) || !isAt(s, other) {
					t.Errorf("kind %d, %d, round %d: %v, %v, %v, and %v, %v, %v", kind, n, round, row, of, as, err, errOf, errAs)
				}
				had := make([]bool, n)
				for _, i := range row {
					if i < 0 || i >= n || had[i] {
						t.Fatalf("kind %d: Perm of %d: %v", kind, n, row)
					}
					had[i] = true
				}
				if len(row) != n {
					t.Errorf("kind %d: Perm of %d has %d", kind, n, len(row))
				}
			}
		}
	}
}

func TestPermAllOrders(t *testing.T) { // P18.3: each order of four is told about as often
	for _, kind := range kinds() {
		many := map[[4]int]int{}
		s := open(t, kind, 92, wide.Of(0), 3*4800)
		for range 4800 {
			row, err := Perm(s, 4)
			if err != api.OK || len(row) != 4 {
				t.Fatal(row, err)
			}
			many[[4]int(row)]++
		}
		for row, n := range many {
			if n < 140 || n > 260 {
				t.Errorf("kind %d: %v is told %d times", kind, row, n)
			}
		}
		if len(many) != 24 {
			t.Errorf("kind %d: %d orders", kind, len(many))
		}
	}
}

func TestRowsAreNoPart(t *testing.T) { // R3, R5: a row can be written over, and grown; no other one, and none behind it, changes
	for _, kind := range kinds() {
		for _, n := range []int{1, 2, 5, 64, api.MostWords} {
			s := open(t, kind, 93, wide.Of(8), 900)
			m, d := s.Copy(), s.Copy()
			row, err := Perm(s, n)
			same, errSame := Perm(d, n)
			if err != api.OK || errSame != api.OK {
				t.Fatal(err, errSame)
			}
			kept := slices.Clone(same)
			for i := range row {
				row[i] = -7
			}
			_ = append(row, 1, 2, 3)
			if !slices.Equal(same, kept) {
				t.Errorf("kind %d: rows of %d share numbers", kind, n)
			}
			_, _ = perm(m, n)
			permOn(t, s, m, n, "behind it")
			if !slices.Equal(same, kept) {
				t.Errorf("kind %d: what was told of %d was changed", kind, n)
			}
		}
	}
}

func TestKeepsNothing(t *testing.T) { // R4, R5: asked again, in another order and between others, the same is answered
	for round := range 3 {
		for i, b := range bounds() {
			if round == 1 {
				b = bounds()[len(bounds())-1-i]
			}
			for _, x := range edges(b) {
				want, wantTaken := tells(x, b)
				if v, taken := Accept(x, b); v != want || taken != wantTaken {
					t.Errorf("round %d: Accept(%d, %d): %d, %v", round, x, b, v, taken)
				}
			}
			s := open(t, api.Pcg, b, wide.Of(2), 12)
			nextOn(t, s, s.Copy(), b, "a round")
			permOn(t, s, s.Copy(), 5, "a round")
		}
	}
}
