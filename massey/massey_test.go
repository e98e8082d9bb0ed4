package massey

import (
	"math"
	"math/big"
	"math/rand/v2"
	"slices"
	"testing"

	"knucklebone/api"
	"knucklebone/gfp"
)

// of tells the polynomial with a part of each power that is named.
func of(powers ...int) gfp.Poly {
	var a gfp.Poly
	for _, n := range powers {
		for len(a) <= n/64 {
			a = append(a, 0)
		}
		a[n/64] ^= 1 << (n % 64)
	}
	return a
}

// row tells a row by its bits as digits.
func row(digits string) []bool {
	var l []bool
	for _, c := range digits {
		l = append(l, c == '1')
	}
	return l
}

// rowOf tells so many low bits of a number, the lowest one first.
func rowOf(n uint64, many int) []bool {
	l := make([]bool, many)
	for i := range l {
		l[i] = n>>i&1 == 1
	}
	return l
}

// random tells a row of so many random bits.
func random(r *rand.Rand, many int) []bool {
	l := make([]bool, many)
	for i := range l {
		l[i] = r.IntN(2) == 1
	}
	return l
}

// randomPoly tells a random polynomial of a degree.
func randomPoly(r *rand.Rand, degree int) gfp.Poly {
	p := make(gfp.Poly, degree/64+1)
	for i := range degree {
		p[i/64] |= uint64(r.IntN(2)) << (i % 64)
	}
	p[degree/64] |= 1 << (degree % 64)
	return p
}

// zeros tells the polynomial 0 in several lengths.
func zeros() []gfp.Poly { return []gfp.Poly{nil, {}, {0}, {0, 0, 0}, make(gfp.Poly, 40)} }

// longer tells a polynomial with words 0 at its end.
func longer(p gfp.Poly) gfp.Poly { return append(slices.Clone(p), 0, 0, 0) }

// degreeOf tells the place of the highest part 1; -1 of 0.
func degreeOf(p gfp.Poly) int {
	for i := 64*len(p) - 1; i >= 0; i-- {
		if p[i/64]>>(i%64)&1 == 1 {
			return i
		}
	}
	return -1
}

// follows tells by the definition, part by part, whether p is a rule of a row.
func follows(p gfp.Poly, l []bool) bool {
	d := degreeOf(p)
	if d < 0 {
		return false
	}
	for i := 0; i+d < len(l); i++ {
		ones := 0
		for k := 0; k <= d; k++ {
			if p[k/64]>>(k%64)&1 == 1 && l[i+k] {
				ones++
			}
		}
		if ones%2 == 1 {
			return false
		}
	}
	return true
}

// goesOn tells by the definition how a row goes on: of both bits the one with which the last ones follow p.
func goesOn(p gfp.Poly, l []bool, many int) []bool {
	l, d := slices.Clone(l), degreeOf(p)
	for range many {
		zero, one := append(slices.Clone(l), false), append(slices.Clone(l), true)
		if last := zero[len(l)-d:]; follows(p, last) {
			l = zero
		} else {
			l = one
		}
	}
	return l
}

// leastRules tells all rules of the least degree that has some, looked for among all polynomials of at most 63 as degree.
func leastRules(l []bool) []gfp.Poly {
	for d := 0; ; d++ {
		var found []gfp.Poly
		for low := range uint64(1) << d {
			if p := (gfp.Poly{1<<d | low}); follows(p, l) {
				found = append(found, p)
			}
		}
		if found != nil {
			return found
		}
	}
}

// solves tells whether a row has a rule of a degree: whether there are parts of which each place's bits make what they must.
func solves(l []bool, d int) bool {
	var done []*big.Int // with distinct highest bits, from the greatest on
	for i := 0; i+d < len(l); i++ {
		// The bit 0 is what the parts make, the bit k + 1 whether the part of x^k counts.
		equation := new(big.Int)
		for k := range d {
			if l[i+k] {
				equation.SetBit(equation, k+1, 1)
			}
		}
		if l[i+d] {
			equation.SetBit(equation, 0, 1)
		}
		for _, e := range done {
			if equation.Bit(e.BitLen()-1) == 1 {
				equation.Xor(equation, e)
			}
		}
		switch equation.BitLen() {
		case 0:
		case 1:
			return false
		default:
			done = append(done, equation)
			slices.SortFunc(done, func(a, b *big.Int) int { return b.Cmp(a) })
		}
	}
	return true
}

// parts tells whether p, that isn't 0, parts a.
func parts(p, a gfp.Poly) bool {
	rest, d := slices.Clone(a), degreeOf(p)
	for n := degreeOf(rest); n >= d; n = degreeOf(rest) {
		for k := 0; k <= d; k++ {
			rest[(n-d+k)/64] ^= (p[k/64] >> (k % 64) & 1) << ((n - d + k) % 64)
		}
	}
	return degreeOf(rest) < 0
}

// ownForm holds that an answer's last word isn't 0.
func ownForm(t *testing.T, p gfp.Poly, said ...any) {
	t.Helper()
	if len(p) > 0 && p[len(p)-1] == 0 {
		t.Errorf("not in its own form: %x (%v)", p, said)
	}
}

// hold holds Length and Least of a row against its length, and against its one least rule, if it is known.
func hold(t *testing.T, l []bool, length int, rule gfp.Poly) {
	t.Helper()
	if got := Length(l); got != length {
		t.Errorf("Length(%v): %d, not %d", l, got, length)
	}
	got, ok := Least(l)
	ownForm(t, got, l)
	switch {
	case 2*length > len(l):
		if len(got) != 0 || ok {
			t.Errorf("Least(%v): %x, %v", l, got, ok)
		}
	case !ok || degreeOf(got) != length || !follows(got, l) || rule != nil && !slices.Equal(got, rule):
		t.Errorf("Least(%v): %x, %v, not %x", l, got, ok, rule)
	}
}

func TestRuleOfAllSmall(t *testing.T) { // P5.1: by the definition
	for many := range 10 {
		for n := range uint64(1) << many {
			l := rowOf(n, many)
			for w := range uint64(1) << 9 {
				want := follows(gfp.Poly{w}, l)
				if got := Rule(gfp.Poly{w}, l); got != want {
					t.Fatalf("Rule(%b, %v): %v", w, l, got)
				}
			}
			for _, w := range []uint64{0, 1, 2, 3, 7, 256} {
				if Rule(gfp.Poly{w, 0, 0}, l) != follows(gfp.Poly{w}, l) {
					t.Fatalf("Rule(%b and words 0, %v)", w, l)
				}
			}
		}
	}
}

func TestRuleEdges(t *testing.T) { // P5.1
	rows := [][]bool{nil, {}, {false}, {true}, make([]bool, 100), row("0110110"), make([]bool, api.MostBits+1)}
	for _, l := range rows {
		for _, zero := range zeros() {
			if Rule(zero, l) {
				t.Errorf("0, of %d words, is a rule of %v", len(zero), l)
			}
		}
		none := !slices.Contains(l, true)
		if Rule(of(0), l) != none || Rule(gfp.Poly{1, 0, 0}, l) != none {
			t.Errorf("1 is a rule of %v: %v", l, !none)
		}
		// Rows no longer than the degree follow all polynomials of it.
		for _, d := range []int{len(l), len(l) + 1, len(l) + 64, 5000} {
			if d == 0 {
				continue
			}
			if p := of(0, d); !Rule(p, l) || !Rule(longer(p), l) || !Rule(of(d), l) {
				t.Errorf("of degree %d: no rule of %v", d, l)
			}
		}
	}
	for _, c := range []struct {
		p    gfp.Poly
		l    string
		want bool
	}{
		{of(0, 1, 2), "011011", true}, {of(0, 1, 2), "011010", false}, {of(0, 1, 2), "111", false}, {of(0, 1, 2), "11", true},
		{of(2), "11", true}, {of(2), "110", true}, {of(2), "1100", true}, {of(2), "1101", false}, {of(2), "111", false},
		{of(1), "1000", true}, {of(1), "1001", false}, {of(1), "01", false}, {of(0, 1), "1111", true}, {of(0, 1), "1110", false},
		{of(1, 2), "0111", true}, {of(1, 2), "1000", true}, {of(1, 2), "0110", false},
	} {
		if got := Rule(c.p, row(c.l)); got != c.want {
			t.Errorf("Rule(%x, %s): %v", c.p, c.l, got)
		}
	}
}

func TestRuleOfLongRows(t *testing.T) { // P5.1: any place may be the one that is wrong; rows may be longer than MostBits
	r := rand.New(rand.NewPCG(1, 2))
	for _, d := range []int{1, 2, 63, 64, 65, 127, 128, 129, 500, 2500} {
		p := randomPoly(r, d)
		l := goesByParts(p, random(r, d), 3000)
		if !Rule(p, l) || !Rule(longer(p), l) {
			t.Errorf("of degree %d: no rule of a row that it made", d)
		}
		if Rule(gfp.Add(p, of(d+1)), l) != follows(gfp.Add(p, of(d+1)), l) {
			t.Errorf("of degree %d: otherwise than by the definition", d+1)
		}
		for _, at := range []int{d, d + 1, len(l) / 2, len(l) - 2, len(l) - 1} {
			wrong := slices.Clone(l)
			wrong[at] = !wrong[at]
			if Rule(p, wrong) {
				t.Errorf("of degree %d: a rule of a row that is wrong at %d", d, at)
			}
		}
	}
}

// goesByParts tells how a row goes on, in less time than goesOn.
func goesByParts(p gfp.Poly, l []bool, many int) []bool {
	l, d := slices.Clone(l), degreeOf(p)
	for range many {
		next := false
		for k := range d {
			next = next != (p[k/64]>>(k%64)&1 == 1 && l[len(l)-d+k])
		}
		l = append(l, next)
	}
	return l
}

func TestAllRowsOfFewBits(t *testing.T) { // P5.1, P5.3: against rules that are looked for by the definition
	for many := range 11 {
		for n := range uint64(1) << many {
			l := rowOf(n, many)
			found := leastRules(l)
			length := degreeOf(found[0])
			if unique := 2*length <= many; unique != (len(found) == 1) {
				t.Fatalf("%v has %d least rules", l, len(found))
			}
			hold(t, l, length, found[0])
			for _, p := range found {
				if !Rule(p, l) {
					t.Errorf("Rule(%x, %v): no", p, l)
				}
			}
		}
	}
}

func TestLengthBySolving(t *testing.T) { // P5.1, P5.3: a rule of the length, and none less
	r := rand.New(rand.NewPCG(3, 4))
	for range 60 {
		l := random(r, 60+r.IntN(100))
		switch r.IntN(3) {
		case 0: // bits 0 ahead
			clear(l[:r.IntN(len(l))])
		case 1: // one that goes on by a rule, but for a bit
			d := 1 + r.IntN(70)
			l = goesByParts(randomPoly(r, d), random(r, d), 30+r.IntN(60))
			at := r.IntN(len(l))
			l[at] = !l[at]
		}
		length := Length(l)
		if length < 0 || !solves(l, length) || length > 0 && solves(l, length-1) {
			t.Fatalf("Length(%v): %d", l, length)
		}
		hold(t, l, length, nil)
	}
}

func TestLengthsOfLongerRows(t *testing.T) { // P5.3: no lesser ones
	r := rand.New(rand.NewPCG(5, 6))
	for range 10 {
		l := random(r, 200)
		before := 0
		for many := range len(l) + 1 {
			length := Length(l[:many])
			if length < before || length > many {
				t.Fatalf("Length of %d bits of %v: %d, and before it %d", many, l, length, before)
			}
			before = length
		}
	}
}

func TestLeastExamples(t *testing.T) { // P5.1
	for _, c := range []struct {
		l      string
		length int
		rule   gfp.Poly
	}{
		{"011011", 2, of(0, 1, 2)},
		{"", 0, of(0)},
		{"0", 0, of(0)},
		{"00000", 0, of(0)},
		{"1", 1, nil},
		{"10", 1, of(1)},
		{"11", 1, of(0, 1)},
		{"01", 2, nil},
		{"1000", 1, of(1)},
		{"1111", 1, of(0, 1)},
		{"1101", 2, of(0, 1, 2)},
		{"1100", 2, of(2)},
		{"110", 2, nil},
		{"1100000", 2, of(2)},
		{"0111", 2, of(1, 2)},
		{"0001", 4, nil},
		{"00010000", 4, of(4)},
		{"0001000", 4, nil},
		{"0010111", 3, of(0, 1, 3)},
		{"001011", 3, of(0, 1, 3)},
		{"00101", 3, nil},
	} {
		hold(t, row(c.l), c.length, c.rule)
	}
	hold(t, nil, 0, of(0))
	hold(t, []bool{}, 0, of(0))
}

func TestLengthEdges(t *testing.T) { // P5.1: MostBits bits, and one more
	single := func(many, at int) []bool {
		l := make([]bool, many)
		l[at] = true
		return l
	}
	hold(t, make([]bool, api.MostBits), 0, of(0))
	hold(t, single(api.MostBits, 0), 1, of(1))
	hold(t, single(api.MostBits, api.MostBits-1), api.MostBits, nil)
	hold(t, single(api.MostBits, api.MostBits/2), api.MostBits/2+1, nil)
	hold(t, single(api.MostBits, api.MostBits/2-1), api.MostBits/2, of(api.MostBits/2))
	hold(t, single(api.MostBits-1, api.MostBits/2-1), api.MostBits/2, nil)
	for _, l := range [][]bool{make([]bool, api.MostBits+1), single(api.MostBits+1, 0), single(api.MostBits+1, api.MostBits), make([]bool, 1<<20)} {
		if got := Length(l); got != -1 {
			t.Errorf("Length of %d bits: %d", len(l), got)
		}
		if got, ok := Least(l); len(got) != 0 || ok {
			t.Errorf("Least of %d bits: %x, %v", len(l), got, ok)
		}
	}
}

// impulse tells a row of bits 0 and a 1 behind them, that goes on by p: no rule of a lesser degree than p's has a row that begins so.
func impulse(p gfp.Poly, many int) []bool {
	l := make([]bool, degreeOf(p))
	l[len(l)-1] = true
	return goesByParts(p, l, many-len(l))
}

func TestLeastIsTheRuleThatMade(t *testing.T) { // P5.1, P5.3: twice its length, and one bit less
	r := rand.New(rand.NewPCG(7, 8))
	rules := []gfp.Poly{of(1), of(0, 1), of(2), of(1, 2), of(0, 1, 2), of(64), of(63, 64), of(0, 128), of(128), of(1024), of(0, 1024), of(0, 1, 6, 19, 1024)}
	for _, d := range []int{1, 2, 3, 31, 32, 33, 63, 64, 65, 127, 128, 129, 256, 511, 512, 1000, 1023, 1024} {
		rules = append(rules, randomPoly(r, d), gfp.Up(randomPoly(r, (d+1)/2), d/2))
	}
	for _, p := range rules {
		d := degreeOf(p)
		for _, many := range []int{2*d - 1, 2 * d, min(2*d+1, api.MostBits), min(3*d, api.MostBits), api.MostBits} {
			hold(t, impulse(p, many), d, p)
		}
	}
}

func TestRandomRowsOfMostBits(t *testing.T) { // P5.1
	r := rand.New(rand.NewPCG(9, 10))
	for _, many := range []int{api.MostBits - 1, api.MostBits} {
		l := random(r, many)
		length := Length(l)
		if solves(l, length-1) || !solves(l, length) {
			t.Errorf("Length of %d bits: %d", many, length)
		}
		hold(t, l, length, nil)
	}
}

func TestGoesByTheDefinition(t *testing.T) { // P5.2
	for w := uint64(2); w < 1<<6; w++ {
		p := gfp.Poly{w}
		d := degreeOf(p)
		for many := d; many < d+4; many++ {
			for n := range uint64(1) << many {
				l := rowOf(n, many)
				for more := range 7 {
					want := goesOn(p, l, more)
					if got, err := Goes(p, l, more); !slices.Equal(got, want) || err != api.OK {
						t.Fatalf("Goes(%b, %v, %d): %v, %v, not %v", w, l, more, got, err, want)
					}
				}
			}
		}
	}
}

func TestGoesFar(t *testing.T) { // P5.2: of many words, and farther than MostBits
	r := rand.New(rand.NewPCG(11, 12))
	for _, d := range []int{1, 63, 64, 65, 127, 128, 129, 500, 2047, 2048, 2049, 3000} {
		for _, p := range []gfp.Poly{randomPoly(r, d), of(d), of(0, d), of(d-1, d)} {
			for _, l := range [][]bool{random(r, d), random(r, d+1), random(r, d+3000)} {
				for _, many := range []int{0, 1, 2, 100, api.MostBits} {
					want := goesByParts(p, l, many)
					if got, err := Goes(p, l, many); !slices.Equal(got, want) || err != api.OK {
						t.Fatalf("Goes(of degree %d, %d bits, %d): %d bits, %v", d, len(l), many, len(got), err)
					}
				}
				got, err := Goes(longer(p), l, 70)
				if !slices.Equal(got, goesByParts(p, l, 70)) || err != api.OK {
					t.Fatalf("Goes of degree %d, with words 0: %v", d, err)
				}
			}
		}
	}
}

func TestGoesExamples(t *testing.T) { // P5.2: what stands ahead needn't follow the rule
	for _, c := range []struct {
		p    gfp.Poly
		l    string
		many int
		want string
	}{
		{of(0, 1, 2), "01", 4, "011011"},
		{of(0, 1, 2), "01", 0, "01"},
		{of(0, 1, 2), "000111101", 4, "0001111011011"},
		{of(1), "1", 3, "1000"},
		{of(1), "0001", 2, "000100"},
		{of(0, 1), "1", 3, "1111"},
		{of(0, 1), "10", 3, "10000"},
		{of(2), "11", 3, "11000"},
		{of(1, 2), "01", 3, "01111"},
		{of(1, 2), "10", 3, "10000"},
		{of(0, 1, 3), "001", 4, "0010111"},
	} {
		if got, err := Goes(c.p, row(c.l), c.many); !slices.Equal(got, row(c.want)) || err != api.OK {
			t.Errorf("Goes(%x, %s, %d): %v, %v", c.p, c.l, c.many, got, err)
		}
	}
}

func TestGoesRefuses(t *testing.T) { // P5.2: ErrZero is told first
	refused := func(p gfp.Poly, l []bool, many int, want api.Errno) {
		t.Helper()
		if got, err := Goes(p, l, many); len(got) != 0 || err != want {
			t.Errorf("Goes(%x, %d bits, %d): %v, %v, not %v", p, len(l), many, got, err, want)
		}
	}
	wrong := []int{math.MinInt, -api.MostBits, -1, api.MostBits + 1, 1 << 40, math.MaxInt}
	for _, l := range [][]bool{nil, {}, {true}, row("0110"), make([]bool, 5000)} {
		for _, p := range append(zeros(), of(0), gfp.Poly{1, 0, 0}) {
			for _, many := range append([]int{0, 1, api.MostBits}, wrong...) {
				refused(p, l, many, api.ErrZero)
			}
		}
		for _, d := range []int{len(l) + 1, len(l) + 64, 9000} {
			for _, many := range append([]int{0, 1, api.MostBits}, wrong...) {
				refused(of(0, d), l, many, api.ErrArg)
				refused(longer(of(d)), l, many, api.ErrArg)
			}
		}
		for _, many := range wrong {
			for _, p := range []gfp.Poly{of(1), of(0, 1), of(0, 4), longer(of(4))} {
				refused(p, l, many, api.ErrArg)
			}
		}
	}
}

func TestRowsThatGoOnFollow(t *testing.T) { // P5.2, P5.3: the least rule parts the one that made the row
	r := rand.New(rand.NewPCG(13, 14))
	held := func(p gfp.Poly, l []bool, many int) {
		t.Helper()
		d := degreeOf(p)
		got, err := Goes(p, l, many)
		if err != api.OK || !Rule(p, got) {
			t.Fatalf("Goes(%x, %v, %d): %v, %v, of which p is no rule", p, l, many, got, err)
		}
		if Length(got) > d {
			t.Errorf("Length(%v): %d, though %x is a rule", got, Length(got), p)
		}
		if least, ok := Least(got); len(got) >= 2*d && (!ok || !parts(least, p)) {
			t.Errorf("Least(%v): %x, %v, parts %x not", got, least, ok, p)
		}
	}
	for w := uint64(2); w < 1<<7; w++ {
		p := gfp.Poly{w}
		d := degreeOf(p)
		for n := range uint64(1) << d {
			for more := range 4 {
				held(p, rowOf(n, d), d+more)
			}
		}
	}
	for range 200 {
		d := 1 + r.IntN(200)
		p := gfp.Mul(randomPoly(r, d/2), randomPoly(r, d-d/2))
		held(p, random(r, d), d+r.IntN(d))
	}
	p := gfp.Mul(randomPoly(r, 300), randomPoly(r, 724))
	held(p, random(r, 1024), 1024)
}

// roomy tells a list of the same items, with others behind its end.
func roomy[T any](l []T, other T) []T {
	return append(slices.Clone(l), other, other, other, other, other, other, other, other)[:len(l)]
}

// reached tells a copy of all that a list reaches.
func reached[T any](l []T) []T { return slices.Clone(l[:cap(l)]) }

// spoil overwrites all that a list reaches.
func spoil[T any](l []T, other func(T) T) {
	for i, x := range l[:cap(l)] {
		l[:cap(l)][i] = other(x)
	}
}

func TestArgumentsStay(t *testing.T) { // P5.1, P5.2: R3, R4
	r := rand.New(rand.NewPCG(15, 16))
	rows := [][]bool{nil, row("0"), row("1"), row("011011"), row("0001"), random(r, 64), random(r, 129), goesByParts(of(0, 1, 3, 5), row("00101"), 200)}
	polys := []gfp.Poly{nil, {0, 0}, of(0), {1, 0}, of(1), of(0, 1, 2), {7, 0, 0}, of(0, 64), of(0, 1, 70), randomPoly(r, 129)}
	flip := func(b bool) bool { return !b }
	for _, p := range polys {
		for _, l := range rows {
			a, b := roomy(p, 0xDEAD), roomy(l, true)
			keptA, keptB := reached(a), reached(b)
			stay := func(name string) {
				t.Helper()
				if !slices.Equal(reached(a), keptA) || !slices.Equal(reached(b), keptB) {
					t.Fatalf("%s of %x, %v changed an argument, or its answer shares it", name, p, l)
				}
			}
			rule, length := Rule(a, b), Length(b)
			stay("Rule or Length")
			if Rule(p, l) != rule || Length(l) != length {
				t.Errorf("Rule or Length of %x, %v answers otherwise", p, l)
			}
			least, ok := Least(b)
			again, okAgain := Least(b)
			stay("Least")
			if !slices.Equal(least, again) || ok != okAgain {
				t.Errorf("Least of %v answers otherwise", l)
			}
			spoil(least, func(w uint64) uint64 { return ^w })
			stay("Least")
			third, _ := Least(b)
			if !slices.Equal(again, third) {
				t.Errorf("the answer of Least of %v is kept", l)
			}
			for _, many := range []int{-1, 0, 1, 100} {
				got, err := Goes(a, b, many)
				second, errAgain := Goes(a, b, many)
				stay("Goes")
				if !slices.Equal(got, second) || err != errAgain {
					t.Errorf("Goes of %x, %v, %d answers otherwise", p, l, many)
				}
				spoil(got, flip)
				stay("Goes")
				if third, _ := Goes(p, l, many); !slices.Equal(third, second) {
					t.Errorf("the answer of Goes of %x, %v, %d is kept", p, l, many)
				}
			}
		}
	}
}

func TestLong(t *testing.T) { // P5.1, P5.2: R1
	l := make([]bool, 1<<20)
	for i := range l {
		l[i] = i%3 != 0
	}
	p := append(of(0, 1, 2), make(gfp.Poly, 1<<20)...)
	if !Rule(p, l) || !Rule(of(0, 3), l) || Rule(of(0, 2), l) || !Rule(of(0, 1<<20-1), l) || Rule(of(0, 1<<19), l) {
		t.Error("Rule of many bits")
	}
	got, err := Goes(p, l, api.MostBits)
	if len(got) != len(l)+api.MostBits || err != api.OK || !Rule(of(0, 1, 2), got) || !slices.Equal(got[:len(l)], l) {
		t.Errorf("Goes of many bits: %d, %v", len(got), err)
	}
}
