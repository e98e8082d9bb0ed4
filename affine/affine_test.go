package affine

import (
	"math"
	"math/big"
	"math/rand/v2"
	"testing"

	"knucklebone/api"
	"knucklebone/wide"
)

const top = math.MaxUint64

// most is 2^128 - 1, half is 2^127, factor is a factor of generators.
var (
	most   = wide.U128{Hi: top, Lo: top}
	half   = wide.U128{Hi: 1 << 63}
	factor = wide.U128{Hi: 0x2360ED051FC65DA4, Lo: 0x4385DF649FCCF645}
)

// toBig tells a number as one without bounds.
func toBig(n wide.U128) *big.Int {
	hi := new(big.Int).SetUint64(n.Hi)
	return hi.Lsh(hi, 64).Add(hi, new(big.Int).SetUint64(n.Lo))
}

// whole is 2^128.
func whole() *big.Int { return new(big.Int).Lsh(big.NewInt(1), 128) }

// low tells what a number is modulo 2^128.
func low(n *big.Int) wide.U128 {
	rest := new(big.Int).Mod(n, whole())
	word := new(big.Int).SetUint64(top)
	return wide.U128{Hi: new(big.Int).Rsh(rest, 64).Uint64(), Lo: new(big.Int).And(rest, word).Uint64()}
}

// taken tells A times x, and C, by numbers without bounds.
func taken(m Map, x wide.U128) wide.U128 {
	p := new(big.Int).Mul(toBig(m.A), toBig(x))
	return low(p.Add(p, toBig(m.C)))
}

// behind tells n behind m, by numbers without bounds.
func behind(m, n Map) Map {
	return Map{low(new(big.Int).Mul(toBig(n.A), toBig(m.A))), taken(n, m.C)}
}

// powered tells a power by numbers without bounds: A^n, and C times the sum of all powers of A below.
func powered(m Map, n wide.U128) Map {
	if m.A == wide.Of(1) {
		return Map{m.A, low(new(big.Int).Mul(toBig(m.C), toBig(n)))}
	}
	less := new(big.Int).Sub(toBig(m.A), big.NewInt(1))
	modulus := new(big.Int).Mul(whole(), new(big.Int).Abs(less))
	p := new(big.Int).Exp(toBig(m.A), toBig(n), modulus)
	sum := new(big.Int).Sub(p, big.NewInt(1))
	sum.Quo(sum, less)
	return Map{low(p), low(sum.Mul(sum, toBig(m.C)))}
}

// edges tells numbers at edges: of words, of all bits, odd ones and even ones.
func edges() []wide.U128 {
	return []wide.U128{
		{}, {Lo: 1}, {Lo: 2}, {Lo: 3}, {Lo: 4}, {Lo: 5}, {Lo: 1 << 63}, {Lo: top - 1}, {Lo: top},
		{Hi: 1}, {Hi: 1, Lo: 1}, {Hi: 1, Lo: top}, {Hi: 1 << 32, Lo: 1}, half, {Hi: 1 << 63, Lo: 1},
		{Hi: 1<<63 - 1, Lo: top}, {Hi: top}, {Hi: top, Lo: 1}, {Hi: top, Lo: top - 1}, most, factor,
	}
}

// numbers tells edges, single bits, rows of bits from either end, and random numbers of all lengths.
func numbers() []wide.U128 {
	r := rand.New(rand.NewPCG(1, 2))
	l := edges()
	for i := range 128 {
		l = append(l, wide.Left(wide.Of(1), i), wide.Left(most, i), wide.Right(most, i))
		l = append(l, wide.Right(wide.U128{Hi: r.Uint64(), Lo: r.Uint64()}, i))
	}
	return l
}

// maps tells maps of all pairs of edges, and random ones.
func maps() []Map {
	r := rand.New(rand.NewPCG(3, 4))
	l := []Map{}
	for _, a := range edges() {
		for _, c := range edges() {
			l = append(l, Map{a, c})
		}
	}
	for range 100 {
		l = append(l, Map{wide.U128{Hi: r.Uint64(), Lo: r.Uint64()}, wide.U128{Hi: r.Uint64(), Lo: r.Uint64()}})
	}
	return l
}

// some tells each k-th of the maps.
func some(k int) []Map {
	l := []Map{}
	for i, m := range maps() {
		if i%k == 0 {
			l = append(l, m)
		}
	}
	return l
}

func odd(n wide.U128) bool { return n.Lo&1 == 1 }

func TestOne(t *testing.T) { // P9.1
	if One() != (Map{wide.Of(1), wide.Of(0)}) {
		t.Errorf("One: %v", One())
	}
	for _, x := range append([]wide.U128{wide.Of(0), wide.Of(1), most}, numbers()...) {
		if got := At(One(), x); got != x {
			t.Errorf("One takes %v to %v", x, got)
		}
	}
	for _, m := range maps() {
		if Then(One(), m) != m || Then(m, One()) != m {
			t.Errorf("%v behind One, and One behind it: %v, %v", m, Then(One(), m), Then(m, One()))
		}
	}
}

func TestAt(t *testing.T) { // P9.1: by numbers without bounds
	for _, m := range maps() {
		for _, x := range numbers() {
			if got, want := At(m, x), taken(m, x); got != want {
				t.Errorf("%v takes %v to %v, not %v", m, x, got, want)
			}
		}
	}
}

func TestAtOver(t *testing.T) { // P9.1: product and sum beyond 2^128
	for _, c := range []struct {
		m    Map
		x    wide.U128
		want wide.U128
	}{
		{Map{wide.Of(2), wide.Of(3)}, wide.Of(5), wide.Of(13)},
		{Map{wide.Of(2), wide.Of(1)}, half, wide.Of(1)},
		{Map{wide.Of(1), wide.Of(1)}, most, wide.Of(0)},
		{Map{wide.Of(1), most}, wide.Of(7), wide.Of(6)},
		{Map{most, most}, most, wide.Of(0)},
		{Map{most, wide.Of(2)}, most, wide.Of(3)},
		{Map{wide.U128{Hi: 1}, wide.Of(9)}, wide.U128{Hi: 1}, wide.Of(9)},
		{Map{wide.Of(1 << 63), wide.Of(0)}, wide.Of(4), wide.U128{Hi: 2}},
		{Map{wide.Of(1), wide.Of(1)}, wide.Of(top), wide.U128{Hi: 1}},
		{Map{wide.Of(0), most}, most, most},
	} {
		if got := At(c.m, c.x); got != c.want {
			t.Errorf("%v takes %v to %v, not %v", c.m, c.x, got, c.want)
		}
	}
}

func TestThen(t *testing.T) { // P9.1: by numbers without bounds, and by what both take a number to
	xs := edges()
	for _, m := range maps() {
		for i, n := range some(7) {
			got := Then(m, n)
			if want := behind(m, n); got != want {
				t.Errorf("%v behind %v: %v, not %v", n, m, got, want)
			}
			x := xs[i%len(xs)]
			if At(got, x) != At(n, At(m, x)) {
				t.Errorf("%v behind %v takes %v to %v", n, m, x, At(got, x))
			}
		}
	}
}

func TestThenOrder(t *testing.T) { // P9.1: the second one stands behind the first one
	double, more := Map{A: wide.Of(2)}, Map{wide.Of(1), wide.Of(1)}
	for _, c := range []struct{ m, n, want Map }{
		{double, more, Map{wide.Of(2), wide.Of(1)}},
		{more, double, Map{wide.Of(2), wide.Of(2)}},
		{Map{wide.Of(3), wide.Of(1)}, Map{wide.Of(5), wide.Of(2)}, Map{wide.Of(15), wide.Of(7)}},
		{Map{wide.Of(5), wide.Of(2)}, Map{wide.Of(3), wide.Of(1)}, Map{wide.Of(15), wide.Of(7)}},
		{Map{half, half}, Map{wide.Of(2), wide.Of(1)}, Map{wide.Of(0), wide.Of(1)}},
		{Map{wide.Of(2), wide.Of(1)}, Map{half, half}, Map{wide.Of(0), wide.Of(0)}},
		{Map{most, most}, Map{most, most}, Map{wide.Of(1), wide.Of(0)}},
		{Map{wide.Of(1), most}, Map{wide.Of(1), most}, Map{wide.Of(1), wide.U128{Hi: top, Lo: top - 1}}},
		{Map{}, Map{wide.Of(4), wide.Of(7)}, Map{wide.Of(0), wide.Of(7)}},
		{Map{wide.Of(4), wide.Of(7)}, Map{}, Map{}},
	} {
		if got := Then(c.m, c.n); got != c.want {
			t.Errorf("%v behind %v: %v, not %v", c.n, c.m, got, c.want)
		}
	}
}

func TestPowerSmall(t *testing.T) { // P9.1: one behind the other, one by one
	for _, m := range maps() {
		want := One()
		for n := range 70 {
			if got := Power(m, wide.Of(uint64(n))); got != want {
				t.Errorf("the power %d of %v: %v, not %v", n, m, got, want)
			}
			want = behind(want, m)
		}
	}
}

func TestPowerFirst(t *testing.T) { // P9.1: n 0, 1, 2
	for _, m := range maps() {
		if Power(m, wide.Of(0)) != One() || Power(m, wide.Of(1)) != m || Power(m, wide.Of(2)) != Then(m, m) {
			t.Errorf("the first powers of %v: %v, %v, %v", m, Power(m, wide.Of(0)), Power(m, wide.Of(1)), Power(m, wide.Of(2)))
		}
	}
}

func TestPowerGreat(t *testing.T) { // P9.1: n of up to 128 bits, by numbers without bounds
	for _, m := range some(5) {
		for _, n := range numbers() {
			if got, want := Power(m, n), powered(m, n); got != want {
				t.Errorf("the power %v of %v: %v, not %v", n, m, got, want)
			}
		}
	}
}

func TestPowerEdges(t *testing.T) { // P9.1: the greatest n, and A that is 0, 1 or even
	seven, less := wide.Of(7), wide.U128{Hi: top, Lo: top - 6} // less is -7
	for _, c := range []struct {
		m    Map
		n    wide.U128
		want Map
	}{
		{Map{A: wide.Of(3), C: wide.Of(1)}, wide.Of(2), Map{wide.Of(9), wide.Of(4)}}, // the chapter's example
		{One(), most, One()},
		{Map{}, wide.Of(0), One()},
		{Map{}, most, Map{}},
		{Map{wide.Of(0), seven}, wide.Of(0), One()},
		{Map{wide.Of(0), seven}, wide.Of(1), Map{wide.Of(0), seven}},
		{Map{wide.Of(0), seven}, half, Map{wide.Of(0), seven}},
		{Map{wide.Of(0), seven}, most, Map{wide.Of(0), seven}},
		{Map{wide.Of(1), wide.Of(1)}, most, Map{wide.Of(1), most}},
		{Map{wide.Of(1), seven}, most, Map{wide.Of(1), less}},
		{Map{wide.Of(1), most}, most, Map{wide.Of(1), wide.Of(1)}},
		{Map{wide.Of(1), wide.Of(2)}, half, One()},
		{Map{wide.Of(1), half}, wide.Of(2), One()},
		{Map{wide.Of(1), half}, most, Map{wide.Of(1), half}},
		{Map{wide.Of(2), wide.Of(0)}, wide.Of(127), Map{half, wide.Of(0)}},
		{Map{wide.Of(2), wide.Of(1)}, wide.Of(127), Map{half, wide.U128{Hi: 1<<63 - 1, Lo: top}}},
		{Map{wide.Of(2), seven}, wide.Of(128), Map{wide.Of(0), less}},
		{Map{wide.Of(2), seven}, most, Map{wide.Of(0), less}},
		{Map{most, seven}, most, Map{most, seven}},
		{Map{most, seven}, wide.U128{Hi: top, Lo: top - 1}, One()},
	} {
		if got := Power(c.m, c.n); got != c.want {
			t.Errorf("the power %v of %v: %v, not %v", c.n, c.m, got, c.want)
		}
	}
}

func TestPowerRound(t *testing.T) { // P9.1: 2^128 of a map that goes through all numbers are once round, and no half of them is
	for _, m := range []Map{{factor, wide.Of(1)}, {wide.Of(5), wide.Of(3)}, {wide.Of(1), wide.Of(1)}, {wide.Of(9), most}} {
		if got := Then(Power(m, most), m); got != One() {
			t.Errorf("2^128 of %v: %v", m, got)
		}
		if got := Power(m, half); got != (Map{wide.Of(1), half}) {
			t.Errorf("2^127 of %v: %v", m, got)
		}
	}
}

func TestThens(t *testing.T) { // P9.1: no more than twice as many as n has bits
	for _, m := range some(3) {
		for _, n := range numbers() {
			many := 0
			got := powerBy(func(m, n Map) Map { many++; return Then(m, n) }, m, n)
			if many > 2*wide.Len(n) || got != Power(m, n) {
				t.Errorf("the power %v of %v: %v, by %d", n, m, got, many)
			}
		}
	}
}

func TestOdd(t *testing.T) { // P9.2: by numbers without bounds
	for _, n := range numbers() {
		if !odd(n) {
			continue
		}
		got, err := Odd(n)
		if err != api.OK || got != low(new(big.Int).ModInverse(toBig(n), whole())) {
			t.Errorf("Odd(%v): %v, %v", n, got, err)
		}
		if p := new(big.Int).Mul(toBig(n), toBig(got)); low(p) != wide.Of(1) {
			t.Errorf("%v times %v: %v", n, got, low(p))
		}
	}
}

func TestOddSmall(t *testing.T) { // P9.2: each of the lowest bits, and each bit behind them
	for low := uint64(1); low < 1<<10; low += 2 {
		for i := range 128 {
			n := wide.Left(wide.Of(1), i)
			n.Lo |= low
			if got, err := Odd(n); wide.Mul(n, got) != wide.Of(1) || err != api.OK {
				t.Errorf("Odd(%v): %v, %v", n, got, err)
			}
		}
	}
}

func TestOddExamples(t *testing.T) { // P9.2
	for _, c := range []struct {
		n, want wide.U128
		err     api.Errno
	}{
		{wide.Of(1), wide.Of(1), api.OK},
		{wide.Of(3), wide.U128{Hi: 0xAAAAAAAAAAAAAAAA, Lo: 0xAAAAAAAAAAAAAAAB}, api.OK},
		{wide.U128{Hi: 0xAAAAAAAAAAAAAAAA, Lo: 0xAAAAAAAAAAAAAAAB}, wide.Of(3), api.OK},
		{wide.Of(5), wide.U128{Hi: 0xCCCCCCCCCCCCCCCC, Lo: 0xCCCCCCCCCCCCCCCD}, api.OK},
		{most, most, api.OK},
		{wide.U128{Hi: 1 << 63, Lo: 1}, wide.U128{Hi: 1 << 63, Lo: 1}, api.OK},
		{wide.U128{Hi: 1, Lo: 1}, wide.U128{Hi: top, Lo: 1}, api.OK},
		{wide.Of(0), wide.Of(0), api.ErrArg},
		{wide.Of(2), wide.Of(0), api.ErrArg},
		{wide.U128{Hi: 1}, wide.Of(0), api.ErrArg},
		{half, wide.Of(0), api.ErrArg},
		{wide.U128{Hi: top, Lo: top - 1}, wide.Of(0), api.ErrArg},
	} {
		if got, err := Odd(c.n); got != c.want || err != c.err {
			t.Errorf("Odd(%v): %v, %v", c.n, got, err)
		}
	}
}

func TestOddOfEven(t *testing.T) { // P9.2: each even number is refused
	for _, n := range numbers() {
		n.Lo &^= 1
		if got, err := Odd(n); got != (wide.U128{}) || err != api.ErrArg {
			t.Errorf("Odd(%v): %v, %v", n, got, err)
		}
	}
}

func TestInverse(t *testing.T) { // P9.2: put before and behind the map itself
	for _, m := range maps() {
		back, err := Inverse(m)
		if !odd(m.A) {
			if back != (Map{}) || err != api.ErrArg {
				t.Errorf("Inverse(%v): %v, %v", m, back, err)
			}
			continue
		}
		if err != api.OK || behind(m, back) != One() || behind(back, m) != One() {
			t.Errorf("Inverse(%v): %v, %v", m, back, err)
		}
		if Then(m, back) != One() || Then(back, m) != One() {
			t.Errorf("%v and %v: %v, %v", m, back, Then(m, back), Then(back, m))
		}
	}
}

func TestInverseExamples(t *testing.T) { // P9.2
	less := wide.U128{Hi: top, Lo: top - 6} // -7
	for _, c := range []struct {
		m, want Map
		err     api.Errno
	}{
		{One(), One(), api.OK},
		{Map{wide.Of(1), wide.Of(7)}, Map{wide.Of(1), less}, api.OK},
		{Map{most, wide.Of(7)}, Map{most, wide.Of(7)}, api.OK},
		{Map{wide.Of(3), wide.Of(9)}, Map{wide.U128{Hi: 0xAAAAAAAAAAAAAAAA, Lo: 0xAAAAAAAAAAAAAAAB}, wide.U128{Hi: top, Lo: top - 2}}, api.OK},
		{Map{}, Map{}, api.ErrArg},
		{Map{wide.Of(0), wide.Of(7)}, Map{}, api.ErrArg},
		{Map{wide.Of(2), wide.Of(1)}, Map{}, api.ErrArg},
		{Map{half, most}, Map{}, api.ErrArg},
		{Map{wide.U128{Hi: 1}, wide.Of(1)}, Map{}, api.ErrArg},
	} {
		if got, err := Inverse(c.m); got != c.want || err != c.err {
			t.Errorf("Inverse(%v): %v, %v", c.m, got, err)
		}
	}
}

func TestTogether(t *testing.T) { // P9.3: three maps, put together in both ways
	l := some(11)
	for _, a := range l {
		for _, b := range l {
			for i := 0; i < len(l); i += 3 {
				if c := l[i]; Then(Then(a, b), c) != Then(a, Then(b, c)) {
					t.Errorf("%v, %v, %v: %v, %v", a, b, c, Then(Then(a, b), c), Then(a, Then(b, c)))
				}
			}
		}
	}
}

func TestPowersAddUp(t *testing.T) { // P9.3: where their sum is below 2^128
	l := numbers()
	for i, m := range maps() {
		for j, p := range edges() {
			q := l[(7*i+j)%len(l)]
			sum, over := wide.Add(p, q)
			if over {
				continue
			}
			both := Then(Power(m, p), Power(m, q))
			if both != Power(m, sum) || both != Then(Power(m, q), Power(m, p)) {
				t.Errorf("the powers %v and %v of %v: %v, not %v", p, q, m, both, Power(m, sum))
			}
		}
	}
}

func TestPowersMultiply(t *testing.T) { // P9.3: numbers of 64 bits have a product below 2^128
	r := rand.New(rand.NewPCG(5, 6))
	words := []uint64{0, 1, 2, 3, 1 << 32, 1 << 63, top - 1, top, r.Uint64(), r.Uint64()}
	for _, m := range maps() {
		for i, p := range words {
			for _, q := range words[i:] {
				want := Power(m, wide.Full(p, q))
				if Power(Power(m, wide.Of(p)), wide.Of(q)) != want || Power(Power(m, wide.Of(q)), wide.Of(p)) != want {
					t.Errorf("the powers %d and %d of %v are not %v", p, q, m, want)
				}
			}
		}
	}
}

func TestTakenBack(t *testing.T) { // P9.3: numbers, maps, and powers
	xs, ns := edges(), numbers()
	for i, m := range maps() {
		back, err := Inverse(m)
		if err != api.OK {
			continue
		}
		for _, x := range xs {
			if At(back, At(m, x)) != x || At(m, At(back, x)) != x {
				t.Errorf("%v, by %v and %v: %v, %v", x, m, back, At(back, At(m, x)), At(m, At(back, x)))
			}
		}
		if again, err := Inverse(back); again != m || err != api.OK {
			t.Errorf("what takes back %v: %v, %v", back, again, err)
		}
		n := ns[i%len(ns)]
		if got, err := Inverse(Power(m, n)); got != Power(back, n) || err != api.OK {
			t.Errorf("what takes back the power %v of %v: %v, %v", n, m, got, err)
		}
	}
}

func TestBothTakenBack(t *testing.T) { // P9.3: two maps are taken back from the last one on
	for _, m := range some(5) {
		for _, n := range some(9) {
			if !odd(m.A) || !odd(n.A) {
				continue
			}
			a, _ := Inverse(m)
			b, _ := Inverse(n)
			if got, err := Inverse(Then(m, n)); got != Then(b, a) || err != api.OK {
				t.Errorf("what takes back %v behind %v: %v, %v", n, m, got, err)
			}
		}
	}
}

// answers tells all that the package answers of two maps and a number.
func answers(m, n *Map, x *wide.U128) [8]Map {
	back, wrong := Inverse(*m)
	number, even := Odd(*x)
	return [8]Map{
		One(), {A: At(*m, *x)}, Then(*m, *n), Power(*m, *x), back,
		{A: wide.Of(uint64(wrong))}, {A: number}, {A: wide.Of(uint64(even))},
	}
}

func TestArgumentsStay(t *testing.T) { // P9.1, P9.2: and the same calls answer the same, whatever was called between
	others := some(2)
	for i, m := range some(3) {
		for _, x := range edges() {
			n := others[i]
			a, b, c := m, n, x
			first := answers(&a, &b, &c)
			answers(&b, &a, &c)
			if again := answers(&a, &b, &c); again != first {
				t.Errorf("%v, %v, %v: %v, then %v", m, n, x, first, again)
			}
			if a != m || b != n || c != x {
				t.Errorf("changed: %v, %v, %v to %v, %v, %v", m, n, x, a, b, c)
			}
		}
	}
}
