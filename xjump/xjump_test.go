package xjump

import (
	"math"
	"math/big"
	"math/bits"
	"math/rand/v2"
	"slices"
	"testing"

	"knucklebone/api"
	"knucklebone/gfdiv"
	"knucklebone/gfp"
	"knucklebone/gfpow"
	"knucklebone/massey"
	"knucklebone/wide"
	"knucklebone/xosh"
)

const (
	top       = math.MaxUint64
	stateBits = 256
)

var most = wide.U128{Hi: top, Lo: top}

// single tells the state of which one bit alone is 1.
func single(bit int) xosh.State {
	var s xosh.State
	s[bit/64] = 1 << (bit % 64)
	return s
}

// add tells states put together, word by word.
func add(s, t xosh.State) xosh.State {
	return xosh.State{s[0] ^ t[0], s[1] ^ t[1], s[2] ^ t[2], s[3] ^ t[3]}
}

// sums is what leads from a state to one far on, as the state behind each single bit:
// jumps are held against these, that know nothing of polynomials.
type sums [stateBits]xosh.State

// of tells the state behind s.
func (m *sums) of(s xosh.State) xosh.State {
	var t xosh.State
	for i, word := range s {
		for ; word != 0; word &= word - 1 {
			t = add(t, m[64*i+bits.TrailingZeros64(word)])
		}
	}
	return t
}

// twice tells what leads twice as far.
func (m *sums) twice() *sums {
	var far sums
	for i, s := range m {
		far[i] = m.of(s)
	}
	return &far
}

// powers tells what leads 1, 2, 4 and so on steps far, so many.
func powers(many int) []*sums {
	var one sums
	for i := range one {
		one[i] = xosh.Step(single(i))
	}
	l := []*sums{&one}
	for len(l) < many {
		l = append(l, l[len(l)-1].twice())
	}
	return l
}

// behind tells the state behind n steps, from what leads the powers of 2 far.
func behind(s xosh.State, n wide.U128, far []*sums) xosh.State {
	for i := range 64 {
		if n.Lo>>i&1 == 1 {
			s = far[i].of(s)
		}
		if n.Hi>>i&1 == 1 {
			s = far[64+i].of(s)
		}
	}
	return s
}

// states tells edges and random states, all 0 among them, that are the same in each run.
func states() []xosh.State {
	r := rand.New(rand.NewPCG(21, 22))
	l := []xosh.State{{}, {1, 2, 3, 4}, {1}, {0, 1}, {0, 0, 1}, {0, 0, 0, 1}, {0, 0, 0, 1 << 63}, {1 << 63}, {top, top, top, top}, {top}, {0, 0, 0, top}}
	for range 8 {
		l = append(l, xosh.State{r.Uint64(), r.Uint64(), r.Uint64(), r.Uint64()})
	}
	return l
}

// right tells the states that may be.
func right() []xosh.State {
	return slices.DeleteFunc(states(), func(s xosh.State) bool { return s == xosh.State{} })
}

// numbers tells numbers of steps, of few bits and of many.
func numbers() []wide.U128 {
	r := rand.New(rand.NewPCG(23, 24))
	l := []wide.U128{most, {Hi: 1 << 63}, {Hi: 1}, {Hi: 1, Lo: 1}, {Lo: top}, {Hi: top}, {Hi: top, Lo: top - 1}}
	for n := range uint64(6) {
		l = append(l, wide.Of(n))
	}
	for _, n := range []uint64{63, 64, 65, 127, 128, 254, 255, 256, 257, 511, 512, 513, 1000, 1 << 20, 1 << 63} {
		l = append(l, wide.Of(n))
	}
	for i := range 12 {
		n := wide.U128{Hi: r.Uint64(), Lo: r.Uint64()}
		l = append(l, n, wide.Right(n, 10*i))
	}
	return l
}

// bit tells the part of x^k, without the help of chapter 2.
func bit(p gfp.Poly, k int) bool { return k/64 < len(p) && p[k/64]>>(k%64)&1 == 1 }

// at tells p of s by the chapter's words: of each part the state so many steps behind s, stepped to anew.
func at(p gfp.Poly, s xosh.State) xosh.State {
	var sum xosh.State
	for k := range 64 * len(p) {
		if !bit(p, k) {
			continue
		}
		t := s
		for range k {
			t = xosh.Step(t)
		}
		sum = add(sum, t)
	}
	return sum
}

// of tells the polynomial with a part of each power that is named.
func of(parts ...int) gfp.Poly {
	var a gfp.Poly
	for _, n := range parts {
		for len(a) <= n/64 {
			a = append(a, 0)
		}
		a[n/64] ^= 1 << (n % 64)
	}
	return a
}

// polys tells polynomials, some with words 0 at their ends, some of degrees above the rule's.
func polys() []gfp.Poly {
	r := rand.New(rand.NewPCG(25, 26))
	l := []gfp.Poly{
		nil, {}, {0}, {0, 0, 0, 0, 0, 0}, {1}, {1, 0, 0}, {2}, {2, 0}, {3}, {top}, {0, 1}, {0, 1, 0}, {1 << 63}, {1 << 63, 1}, {0, 0, 0, 1 << 63}, {0, 0, 0, 0, 1}, {0, 0, 0, 0, 1, 0, 0},
		of(255), of(256), of(257), of(0, 256), of(319, 320), of(0, 300, 511), of(512), of(1023), of(0, 1024),
	}
	for i := range 10 {
		a := make(gfp.Poly, i+1)
		for k := range a {
			a[k] = r.Uint64()
		}
		l = append(l, append(a, make(gfp.Poly, i%3)...))
	}
	return l
}

func TestRule(t *testing.T) { // P8.1
	rule := Rule()
	if want := (gfp.Poly{0x9d116f2bb0f0f001, 0x0280002bcefd1a5e, 0x04b4edcf26259f85, 0x0003c03c3f3ecb19, 1}); !slices.Equal(rule, want) {
		t.Fatalf("%x, not %x", rule, want)
	}
	if gfp.Deg(rule) != stateBits || !gfpow.Irreducible(rule) {
		t.Errorf("of degree %d, irreducible: %v", gfp.Deg(rule), gfpow.Irreducible(rule))
	}
	for i := range stateBits {
		if got := at(rule, single(i)); got != (xosh.State{}) {
			t.Errorf("of bit %d alone it tells %x", i, got)
		}
	}
	for _, s := range states() {
		if got := at(rule, s); got != (xosh.State{}) {
			t.Errorf("of %x it tells %x", s, got)
		}
	}
}

func TestRuleOfBits(t *testing.T) { // P8.1: the least one of the 512 bits, by the definition
	var row []bool
	s := xosh.State{1, 0, 0, 0}
	for range 512 {
		row = append(row, s[0]%2 == 1)
		s = xosh.Step(s)
	}
	rule := Rule()
	for place := range len(row) - stateBits {
		odd := false
		for k := range stateBits + 1 {
			odd = odd != (bit(rule, k) && row[place+k])
		}
		if odd {
			t.Errorf("it fails at the place %d", place)
		}
	}
	if massey.Length(row) != stateBits {
		t.Errorf("the row's length: %d", massey.Length(row))
	}
}

func TestRuleIsTheOnlyOne(t *testing.T) { // P8.1: no lesser polynomial tells all 0: 256 states in a row have no sum that does
	var rows []xosh.State
	s := xosh.State{1, 0, 0, 0}
	for k := range stateBits {
		row := s
		for _, r := range rows {
			at := slices.IndexFunc(r[:], func(w uint64) bool { return w != 0 })
			if row[at]&(r[at]&-r[at]) != 0 {
				row = add(row, r)
			}
		}
		if row == (xosh.State{}) {
			t.Fatalf("the state behind %d steps is a sum of those ahead", k)
		}
		rows = append(rows, row)
		s = xosh.Step(s)
	}
}

func TestAt(t *testing.T) { // P8.1: against states stepped to anew
	for _, p := range polys() {
		for _, s := range states() {
			if got, want := At(p, s), at(p, s); got != want {
				t.Errorf("At(%x, %x): %x, not %x", p, s, got, want)
			}
		}
	}
}

func TestAtEdges(t *testing.T) { // P8.1
	rule := Rule()
	for _, s := range states() {
		for _, c := range []struct {
			name string
			p    gfp.Poly
			want xosh.State
		}{
			{"no polynomial", nil, xosh.State{}},
			{"0", gfp.Poly{0, 0}, xosh.State{}},
			{"1", gfp.Poly{1}, s},
			{"x", gfp.Poly{2}, xosh.Step(s)},
			{"x + 1", gfp.Poly{3}, add(s, xosh.Step(s))},
			{"the rule", rule, xosh.State{}},
			{"the rule and 1", gfp.Add(rule, gfp.X(0)), s},
			{"the rule, up by x", gfp.Up(rule, 1), xosh.State{}},
			{"the rule, up by x^256, and x", gfp.Add(gfp.Up(rule, 256), gfp.X(1)), xosh.Step(s)},
		} {
			if got := At(c.p, s); got != c.want {
				t.Errorf("%s of %x: %x, not %x", c.name, s, got, c.want)
			}
		}
	}
	for _, p := range append(polys(), rule) {
		if got := At(p, xosh.State{}); got != (xosh.State{}) {
			t.Errorf("%x of all 0: %x", p, got)
		}
	}
}

func TestAtOfRests(t *testing.T) { // P8.1: what has one rest tells one state; sums of polynomials and of states go through
	rule, all := Rule(), states()
	for i, p := range polys() {
		rest, _ := gfdiv.Mod(p, rule)
		for k, s := range all {
			q, u := polys()[(3*i+k)%len(polys())], all[(5*k+i)%len(all)]
			if At(p, s) != At(rest, s) {
				t.Errorf("%x and its rest %x of %x: %x, %x", p, rest, s, At(p, s), At(rest, s))
			}
			if got, want := At(p, add(s, u)), add(At(p, s), At(p, u)); got != want {
				t.Errorf("%x of %x and %x: %x, not %x", p, s, u, got, want)
			}
			if got, want := At(gfp.Add(p, q), s), add(At(p, s), At(q, s)); got != want {
				t.Errorf("%x and %x of %x: %x, not %x", p, q, s, got, want)
			}
			if got, want := At(gfp.Mul(p, q), s), At(p, At(q, s)); got != want {
				t.Errorf("%x times %x of %x: %x, not %x", p, q, s, got, want)
			}
		}
	}
}

func TestAtLong(t *testing.T) { // P8.1: R1: more words than MostPoly
	r := rand.New(rand.NewPCG(27, 28))
	p := make(gfp.Poly, 1<<12)
	for i := range p {
		p[i] = r.Uint64()
	}
	rest, _ := gfdiv.Mod(p, Rule())
	s := xosh.State{1, 2, 3, 4}
	if got, want := At(p, s), at(rest, s); got != want {
		t.Errorf("of many words: %x, not %x", got, want)
	}
	if got, want := At(append(gfp.Poly{5}, make(gfp.Poly, 1<<20)...), s), at(gfp.Poly{5}, s); got != want {
		t.Errorf("of many words 0: %x, not %x", got, want)
	}
}

func TestPoly(t *testing.T) { // P8.1: the rest of x^n, in its own form
	rule := Rule()
	for _, n := range numbers() {
		got := Poly(n)
		want, _ := gfpow.X(n, rule)
		if !slices.Equal(got, want) || gfp.Deg(got) >= stateBits || !slices.Equal(got, gfp.Own(got)) {
			t.Errorf("Poly(%x): %x, not %x", n, got, want)
		}
	}
	for n := range 600 {
		want, _ := gfdiv.Mod(gfp.X(n), rule)
		if got := Poly(wide.Of(uint64(n))); !slices.Equal(got, want) {
			t.Errorf("Poly(%d): %x, not %x", n, got, want)
		}
	}
}

func TestPolyEdges(t *testing.T) { // P8.1
	for i, c := range []struct {
		n wide.U128
		p gfp.Poly
	}{
		{wide.Of(0), gfp.Poly{1}},
		{wide.Of(1), gfp.Poly{2}},
		{wide.Of(64), gfp.Poly{0, 1}},
		{wide.Of(255), gfp.Poly{0, 0, 0, 1 << 63}},
		{wide.Of(256), gfp.Poly{0x9d116f2bb0f0f001, 0x0280002bcefd1a5e, 0x04b4edcf26259f85, 0x0003c03c3f3ecb19}},
		// Times x it is the published jump of 2^128 steps.
		{most, gfp.Poly{0x0c0763699e7e855d, 0x6ad3093378649c96, 0x54ac130c701fe4d5, 0x1cd5ee2294d8b30e}},
	} {
		if got := Poly(c.n); !slices.Equal(got, c.p) {
			t.Errorf("case %d: %x, not %x", i, got, c.p)
		}
	}
	last, _ := gfdiv.MulMod(Poly(most), gfp.X(1), Rule())
	if !slices.Equal(last, published(128)) {
		t.Errorf("of 2^128: %x", last)
	}
}

// published tells the polynomial of the jump of 2^128, or 2^192, steps, as the generator's authors tell it.
func published(n int) gfp.Poly {
	if n == 128 {
		return gfp.Poly{0x180ec6d33cfd0aba, 0xd5a61266f0c9392c, 0xa9582618e03fc9aa, 0x39abdc4529b1661c}
	}
	return gfp.Poly{0x76e15d3efefdcbbf, 0xc5004e441c522fb3, 0x77710069854ee241, 0x39109bb02acbe635}
}

func TestJumpBySteps(t *testing.T) { // P8.2: against single steps
	for _, from := range right() {
		s := from
		for n := range 700 {
			if got, err := Jump(from, wide.Of(uint64(n))); got != s || err != api.OK {
				t.Fatalf("Jump(%x, %d): %x, %v, not %x", from, n, got, err, s)
			}
			s = xosh.Step(s)
		}
	}
	s := xosh.State{1, 2, 3, 4}
	for range 1 << 20 {
		s = xosh.Step(s)
	}
	if got, err := Jump(xosh.State{1, 2, 3, 4}, wide.Of(1<<20)); got != s || err != api.OK {
		t.Errorf("Jump by 2^20: %x, %v, not %x", got, err, s)
	}
}

func TestJump(t *testing.T) { // P8.2: against sums of what is behind single bits
	far := powers(128)
	for _, s := range right() {
		for _, n := range numbers() {
			if got, err := Jump(s, n); got != behind(s, n, far) || err != api.OK {
				t.Errorf("Jump(%x, %x): %x, %v, not %x", s, n, got, err, behind(s, n, far))
			}
		}
	}
}

func TestJumpExamples(t *testing.T) { // P8.2
	one := xosh.State{1, 2, 3, 4}
	for i, c := range []struct {
		n    wide.U128
		want xosh.State
	}{
		{wide.Of(0), one},
		{wide.Of(1), xosh.State{7, 0, 262146, 6 << 45}},
		{most, xosh.Back(at(published(128), one))},
	} {
		if got, err := Jump(one, c.n); got != c.want || err != api.OK {
			t.Errorf("case %d: %x, %v, not %x", i, got, err, c.want)
		}
	}
}

func TestPowers(t *testing.T) { // P8.2: against sums of what is behind single bits, up to 2^MostBits steps
	all := right()
	for n, far := range powers(api.MostBits + 1) {
		many := 1
		if n <= 10 || n >= 120 && n <= 136 || n >= 250 && n <= 260 || n >= api.MostBits-2 {
			many = len(all)
		} else if n%37 != 0 {
			continue
		}
		for i := range many {
			s := all[(n+i)%len(all)]
			if got, err := Powers(s, n); got != far.of(s) || err != api.OK {
				t.Errorf("Powers(%x, %d): %x, %v, not %x", s, n, got, err, far.of(s))
			}
		}
	}
}

func TestPowersExamples(t *testing.T) { // P8.2
	for _, s := range right() {
		for _, c := range []struct {
			n    int
			want xosh.State
		}{
			{0, xosh.Step(s)},
			{1, xosh.Step(xosh.Step(s))},
			{128, at(published(128), s)},
			{192, at(published(192), s)},
			{256, xosh.Step(s)}, // 2^256 less 1 is once round
			{257, xosh.Step(xosh.Step(s))},
			{api.MostBits, xosh.Step(s)}, // MostBits is 8 times 256
			{api.MostBits - 64, at(published(192), s)},
		} {
			if got, err := Powers(s, c.n); got != c.want || err != api.OK {
				t.Errorf("Powers(%x, %d): %x, %v, not %x", s, c.n, got, err, c.want)
			}
		}
		for n := range 128 {
			got, _ := Powers(s, n)
			if want, _ := Jump(s, wide.Left(wide.Of(1), n)); got != want {
				t.Errorf("Powers(%x, %d): %x, and Jump's is %x", s, n, got, want)
			}
		}
	}
}

// outside tells numbers that aren't from 0 to MostBits.
func outside() []int {
	return []int{math.MinInt, -1 << 32, -api.MostBits, -2, -1, api.MostBits + 1, api.MostBits + 2, 1 << 32, 1 << 40, math.MaxInt}
}

func TestRefuses(t *testing.T) { // P8.2: all 0 beside an error, and the error that is named first
	for _, n := range numbers() {
		if got, err := Jump(xosh.State{}, n); got != (xosh.State{}) || err != api.ErrState {
			t.Errorf("Jump of all 0, %x: %x, %v", n, got, err)
		}
	}
	for _, n := range append(outside(), 0, 1, 2, 256, api.MostBits) {
		if got, err := Powers(xosh.State{}, n); got != (xosh.State{}) || err != api.ErrState {
			t.Errorf("Powers of all 0, %d: %x, %v", n, got, err)
		}
	}
	for _, n := range outside() {
		for _, s := range right() {
			if got, err := Powers(s, n); got != (xosh.State{}) || err != api.ErrArg {
				t.Errorf("Powers(%x, %d): %x, %v", s, n, got, err)
			}
		}
	}
}

func TestJumpsAddUp(t *testing.T) { // P8.3: jumps in parts are one jump
	l, all := numbers(), right()
	for i, m := range l {
		for k, n := range l {
			if (i+2*k)%7 != 0 {
				continue
			}
			s := all[(i+k)%len(all)]
			first, _ := Jump(s, m)
			got, err := Jump(first, n)
			sum, over := wide.Add(m, n)
			want, _ := Jump(s, sum)
			if over {
				want, _ = Powers(want, 128)
			}
			if got != want || err != api.OK {
				t.Errorf("Jump by %x and %x of %x: %x, %v, not %x", m, n, s, got, err, want)
			}
		}
	}
	for _, s := range all {
		for _, n := range []int{0, 1, 127, 128, 300, api.MostBits - 1} {
			half, _ := Powers(s, n)
			got, err := Powers(half, n)
			if want, _ := Powers(s, n+1); got != want || err != api.OK {
				t.Errorf("Powers twice, %d, of %x: %x, %v, not %x", n, s, got, err, want)
			}
		}
	}
}

func TestJumpsOfSums(t *testing.T) { // P8.3
	l, all := numbers(), right()
	for i, s := range all {
		for k, u := range all[:i] {
			n := l[(3*i+5*k)%len(l)]
			left, _ := Jump(s, n)
			with, _ := Jump(u, n)
			if got, err := Jump(add(s, u), n); got != add(left, with) || err != api.OK {
				t.Errorf("Jump by %x of %x and %x: %x, %v, not %x", n, s, u, got, err, add(left, with))
			}
			power := (77 * (i + k)) % 300
			left, _ = Powers(s, power)
			with, _ = Powers(u, power)
			if got, err := Powers(add(s, u), power); got != add(left, with) || err != api.OK {
				t.Errorf("Powers by %d of %x and %x: %x, %v, not %x", power, s, u, got, err, add(left, with))
			}
		}
	}
}

func TestJumpsLeadApart(t *testing.T) { // P8.3: distinct numbers of steps, distinct states, none of them all 0
	for _, s := range right() {
		from := map[xosh.State]wide.U128{}
		for _, n := range numbers() {
			got, _ := Jump(s, n)
			if other, there := from[got]; !xosh.Right(got) || there && other != n {
				t.Errorf("from %x by %x and %x: %x", s, other, n, got)
			}
			from[got] = n
		}
	}
}

// power tells x^n by the rule, n without bounds.
func power(n *big.Int) gfp.Poly {
	rule, p := Rule(), gfp.X(0)
	for i := n.BitLen() - 1; i >= 0; i-- {
		p, _ = gfdiv.MulMod(p, p, rule)
		if n.Bit(i) == 1 {
			p, _ = gfdiv.MulMod(p, gfp.X(1), rule)
		}
	}
	return p
}

func TestOneWayRound(t *testing.T) { // P8.3: of 2^256 less 1 steps, and no fewer
	one := big.NewInt(1)
	round := new(big.Int).Sub(new(big.Int).Lsh(one, stateBits), one)
	if !slices.Equal(power(round), gfp.X(0)) {
		t.Errorf("once round: %x", power(round))
	}
	left := new(big.Int).Set(round)
	for _, prime := range []string{"3", "5", "17", "257", "641", "65537", "274177", "6700417", "67280421310721", "59649589127497217", "5704689200685129054721"} {
		q, _ := new(big.Int).SetString(prime, 10)
		part, rest := new(big.Int).QuoRem(round, q, new(big.Int))
		if rest.Sign() != 0 || !q.ProbablyPrime(20) {
			t.Fatalf("%s is no prime part of 2^256 less 1", prime)
		}
		if slices.Equal(power(part), gfp.X(0)) {
			t.Errorf("by %s less: round, too", prime)
		}
		left.Quo(left, q)
	}
	if left.Cmp(one) != 0 {
		t.Fatalf("parts of 2^256 less 1 are left: %d", left)
	}
}

func TestFarIsNoLonger(t *testing.T) { // P8.3: states gone through are never more than the rule's degree
	r := rand.New(rand.NewPCG(29, 30))
	for range 300 {
		n := wide.U128{Hi: r.Uint64(), Lo: r.Uint64()}
		if p := Poly(n); gfp.Deg(p) >= stateBits || gfpow.Rounds(n) > 128 {
			t.Errorf("of %x: the degree %d", n, gfp.Deg(p))
		}
	}
}

// roomy tells a list of the same words, with others behind its end.
func roomy(a gfp.Poly) gfp.Poly {
	l := append(slices.Clone(a), 91, 92, 93, 94, 95, 96, 97, 98)
	return l[:len(a)]
}

// reached tells a copy of all that a list reaches.
func reached(a gfp.Poly) gfp.Poly { return slices.Clone(a[:cap(a)]) }

// spoil overwrites all that a list reaches.
func spoil(a gfp.Poly) {
	for i := range a[:cap(a)] {
		a[:cap(a)][i] = 0xDEAD
	}
}

func TestArgumentsStay(t *testing.T) { // P8.1, P8.2: R3, R4
	for _, p := range polys() {
		for _, s := range states() {
			x, u := roomy(p), s
			kept := reached(x)
			got := At(x, u)
			if again := At(x, u); got != again || got != At(p, s) {
				t.Errorf("At(%x, %x) answers otherwise: %x, %x", p, s, got, again)
			}
			if !slices.Equal(reached(x), kept) || u != s {
				t.Errorf("At changed an argument: %x, %x", p, s)
			}
		}
	}
	for _, s := range states() {
		for i, n := range numbers() {
			u, m := s, n
			got, err := Jump(u, m)
			far, errFar := Powers(u, 4*i-5)
			if again, errAgain := Jump(u, m); again != got || errAgain != err {
				t.Errorf("Jump(%x, %x) answers otherwise", s, n)
			}
			if again, errAgain := Powers(u, 4*i-5); again != far || errAgain != errFar {
				t.Errorf("Powers(%x, %d) answers otherwise", s, 4*i-5)
			}
			if u != s || m != n {
				t.Errorf("an argument was changed: %x, %x", s, n)
			}
		}
	}
}

func TestAnswersAreTheirOwn(t *testing.T) { // P8.1: R3 to R5: nothing that was told is kept
	one := xosh.State{1, 2, 3, 4}
	for _, n := range numbers() {
		rule, p := Rule(), Poly(n)
		keptRule, keptPoly := slices.Clone(rule), slices.Clone(p)
		s, _ := Jump(one, n)
		spoil(rule)
		spoil(p)
		if !slices.Equal(Rule(), keptRule) || !slices.Equal(Poly(n), keptPoly) {
			t.Errorf("what Rule or Poly(%x) tells is kept", n)
		}
		if again, _ := Jump(one, n); again != s {
			t.Errorf("Jump by %x answers otherwise", n)
		}
	}
}
