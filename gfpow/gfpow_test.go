package gfpow

import (
	"math"
	"math/big"
	"math/rand/v2"
	"slices"
	"testing"

	"knucklebone/api"
	"knucklebone/gfdiv"
	"knucklebone/gfp"
	"knucklebone/wide"
)

const top = math.MaxUint64

var most = wide.U128{Hi: top, Lo: top}

// of tells the polynomial with a part of each power that is named.
func of(powers ...int) gfp.Poly {
	var a gfp.Poly
	for _, n := range powers {
		for len(a) <= n/64 {
			a = append(a, 0)
		}
		a[n/64] ^= 1 << (n % 64)
	}
	return a
}

// whole tells a polynomial as the bits of one number: what all answers are held against.
func whole(a gfp.Poly) *big.Int {
	n := new(big.Int)
	for i := range a {
		n.Or(n, new(big.Int).Lsh(new(big.Int).SetUint64(a[i]), uint(64*i)))
	}
	return n
}

// productOf tells a product by its definition.
func productOf(a, b *big.Int) *big.Int {
	product := new(big.Int)
	for i := range b.BitLen() {
		if b.Bit(i) == 1 {
			product.Xor(product, new(big.Int).Lsh(a, uint(i)))
		}
	}
	return product
}

// restOf tells a rest, as by hand; p isn't 0.
func restOf(a, p *big.Int) *big.Int {
	rest := new(big.Int).Set(a)
	for rest.BitLen() >= p.BitLen() {
		rest.Xor(rest, new(big.Int).Lsh(p, uint(rest.BitLen()-p.BitLen())))
	}
	return rest
}

// powerOf tells a power from the lowest bit of n on, each bit with a square of its own.
func powerOf(a gfp.Poly, n wide.U128, p gfp.Poly) *big.Int {
	by := whole(p)
	power, square := restOf(big.NewInt(1), by), restOf(whole(a), by)
	for _, word := range []uint64{n.Lo, n.Hi} {
		for i := range 64 {
			if word>>i&1 == 1 {
				power = restOf(productOf(power, square), by)
			}
			square = restOf(productOf(square, square), by)
		}
	}
	return power
}

// ownForm holds that an answer has no word 0 at its end.
func ownForm(t *testing.T, got gfp.Poly, call string, args ...any) {
	t.Helper()
	if n := len(got); n > 0 && got[n-1] == 0 {
		t.Errorf("%s%x: %x isn't in its own form", call, args, got)
	}
}

// check holds an answer against the bits it must have, and against its own form.
func check(t *testing.T, got gfp.Poly, err api.Errno, want *big.Int, call string, args ...any) {
	t.Helper()
	if err != api.OK || whole(got).Cmp(want) != 0 {
		t.Errorf("%s%x: %x, %v, not %x", call, args, got, err, want)
	}
	ownForm(t, got, call, args...)
}

// zeros tells all shapes of 0.
func zeros() []gfp.Poly { return []gfp.Poly{nil, {}, {0}, {0, 0}, make(gfp.Poly, 40)} }

// samples tells polynomials of degrees at the edges of words, some with words 0 at their ends, that are the same in each run.
func samples() []gfp.Poly {
	l := []gfp.Poly{
		nil, {0}, {0, 0, 0}, {1}, {1, 0, 0}, {2}, {3}, {7}, {0b1011, 0}, {top}, {1 << 63, 0, 0},
		{0, 1}, {0, 1, 0}, {1, 1}, {top, top}, {1 << 63, 1}, {0, 1 << 63}, {5, 0, 0, 7, 0, 0},
	}
	for _, n := range []int{62, 63, 64, 65, 127, 128, 129, 256} {
		l = append(l, of(0, 1, n))
	}
	r := rand.New(rand.NewPCG(11, 12))
	for i := range 8 {
		a := make(gfp.Poly, i/2+1)
		for k := range a {
			a[k] = r.Uint64()
		}
		l = append(l, append(a, make(gfp.Poly, i%3)...))
	}
	return l
}

// parters tells the samples that are not 0.
func parters() []gfp.Poly {
	return slices.DeleteFunc(samples(), func(a gfp.Poly) bool { return whole(a).Sign() == 0 })
}

// small tells all polynomials of a degree below so many.
func small(bits int) []gfp.Poly {
	var l []gfp.Poly
	for w := range uint64(1) << bits {
		l = append(l, gfp.Poly{w})
	}
	return l
}

// numbers tells exponents of all lengths, edges among them, that are the same in each run.
func numbers() []wide.U128 {
	l := []wide.U128{
		{}, {Lo: 1}, {Lo: 2}, {Lo: 3}, {Lo: 1 << 63}, {Lo: top - 1}, {Lo: top}, {Hi: 1}, {Hi: 1, Lo: 1}, {Hi: 1, Lo: top},
		{Hi: 1 << 63}, {Hi: 1 << 63, Lo: 1}, {Hi: 1<<63 - 1, Lo: top}, {Hi: top}, {Hi: top, Lo: top - 1}, most,
	}
	r := rand.New(rand.NewPCG(13, 14))
	for i := range 10 {
		l = append(l, wide.Right(wide.U128{Hi: r.Uint64(), Lo: r.Uint64()}, 13*i))
	}
	return l
}

// irreducibles tells some that are irreducible, by their degrees.
func irreducibles() map[int]gfp.Poly {
	return map[int]gfp.Poly{
		1: of(0, 1), 2: of(0, 1, 2), 3: of(0, 1, 3), 8: of(0, 1, 3, 4, 8), 63: of(0, 1, 63), 64: of(0, 1, 3, 4, 64),
		65: of(0, 18, 65), 127: of(0, 1, 127), 128: of(0, 1, 2, 7, 128), 129: of(0, 5, 129), 255: of(0, 52, 255), 256: of(0, 2, 5, 10, 256),
	}
}

func TestPow(t *testing.T) { // P4.1: a times itself, one by one
	for _, a := range samples() {
		for _, p := range parters() {
			want := restOf(big.NewInt(1), whole(p))
			for n := range uint64(9) {
				got, err := Pow(a, wide.Of(n), p)
				check(t, got, err, want, "Pow", a, n, p)
				want = restOf(productOf(want, whole(a)), whole(p))
			}
		}
	}
}

func TestPowSmall(t *testing.T) { // P4.1: a times itself, one by one
	for _, a := range small(5) {
		for _, p := range small(5)[1:] {
			want := restOf(big.NewInt(1), whole(p))
			for n := range uint64(40) {
				got, err := Pow(a, wide.Of(n), p)
				check(t, got, err, want, "Pow", a, n, p)
				want = restOf(productOf(want, whole(a)), whole(p))
			}
		}
	}
}

func TestPowOfGreatNumbers(t *testing.T) { // P4.1: n of up to 128 bits
	l, ps := samples(), parters()
	for i, n := range numbers() {
		for j, a := range l {
			p := ps[(i*5+j*3)%len(ps)]
			got, err := Pow(a, n, p)
			check(t, got, err, powerOf(a, n, p), "Pow", a, n, p)
		}
	}
}

func TestPowExamples(t *testing.T) { // P4.1
	for _, c := range []struct {
		a    gfp.Poly
		n    wide.U128
		p    gfp.Poly
		want gfp.Poly
	}{
		{of(1), wide.Of(2), of(0, 1, 2), of(0, 1)},
		{of(1), wide.Of(3), of(0, 1, 2), of(0)},
		{of(1), most, of(0, 1, 2), of(0)}, // 3 parts 2^128 less 1
		{of(1), wide.U128{Hi: 1 << 63}, of(0, 1, 2), of(0, 1)},
		{gfp.Poly{2, 0}, wide.Of(2), gfp.Poly{7, 0, 0}, of(0, 1)},
		{of(1), wide.Of(64), of(0, 65), of(64)},
		{of(1), wide.Of(65), of(0, 65), of(0)},
		{of(1), wide.Of(63), of(64), of(63)},
		{of(1), wide.Of(64), of(64), nil},
		{of(1), wide.Of(64), of(0, 64), of(0)},
		{of(0, 1), wide.Of(64), of(200), of(0, 64)},
		{of(0, 1), wide.Of(63), of(64), gfp.Poly{top}},
		{of(1), most, of(0, 1, 2, 7, 128), of(0)}, // the way round of a field of 2^128
		{of(5, 99), most, of(0, 1, 2, 7, 128), of(0)},
		{of(0, 3), wide.U128{Hi: 1}, of(0, 1, 3, 4, 64), of(0, 3)},
		{nil, wide.Of(1), of(0, 1, 2), nil},
		{gfp.Poly{0, 0}, most, of(0, 70), nil},
		{of(0), most, of(0, 70), of(0)},
		{of(3 * api.MostBits), wide.Of(1), of(0, 1, 2), of(0)},
		{of(1), wide.Of(4 * api.MostBits), of(5 * api.MostBits), of(4 * api.MostBits)},
	} {
		if got, err := Pow(c.a, c.n, c.p); !slices.Equal(got, c.want) || err != api.OK {
			t.Errorf("Pow(%x, %x, %x): %x, %v, not %x", c.a, c.n, c.p, got, err, c.want)
		}
	}
}

func TestPowOfNone(t *testing.T) { // P4.1: n 0 has the rest of 1, of every a
	for _, a := range append(samples(), zeros()...) {
		for _, p := range parters() {
			want := restOf(big.NewInt(1), whole(p))
			got, err := Pow(a, wide.U128{}, p)
			check(t, got, err, want, "Pow", a, 0, p)
			got, err = X(wide.U128{}, p)
			check(t, got, err, want, "X", 0, p)
		}
	}
}

func TestByOne(t *testing.T) { // P4.1: by p 1 all rests are 0
	for _, one := range []gfp.Poly{{1}, {1, 0}, {1, 0, 0, 0}} {
		for _, n := range numbers() {
			if got, err := X(n, one); len(got) != 0 || err != api.OK {
				t.Errorf("X(%x, %x): %x, %v", n, one, got, err)
			}
			for _, a := range samples() {
				if got, err := Pow(a, n, one); len(got) != 0 || err != api.OK {
					t.Errorf("Pow(%x, %x, %x): %x, %v", a, n, one, got, err)
				}
			}
		}
		for _, a := range samples() {
			for _, many := range []int{0, 1, 2, 77} {
				if got, err := Squares(a, many, one); len(got) != 0 || err != api.OK {
					t.Errorf("Squares(%x, %d, %x): %x, %v", a, many, one, got, err)
				}
			}
		}
	}
}

func TestByZero(t *testing.T) { // P4.1: ahead of all else
	for _, zero := range zeros() {
		for _, n := range numbers() {
			if got, err := X(n, zero); len(got) != 0 || err != api.ErrZero {
				t.Errorf("X(%x, %x): %x, %v", n, zero, got, err)
			}
			for _, a := range samples() {
				if got, err := Pow(a, n, zero); len(got) != 0 || err != api.ErrZero {
					t.Errorf("Pow(%x, %x, %x): %x, %v", a, n, zero, got, err)
				}
			}
		}
		for _, a := range samples() {
			for _, many := range []int{math.MinInt, -1, 0, 1, api.MostBits, api.MostBits + 1, math.MaxInt} {
				if got, err := Squares(a, many, zero); len(got) != 0 || err != api.ErrZero {
					t.Errorf("Squares(%x, %d, %x): %x, %v", a, many, zero, got, err)
				}
			}
		}
	}
}

func TestX(t *testing.T) { // P4.1
	for _, p := range parters() {
		for n := range 140 {
			got, err := X(wide.Of(uint64(n)), p)
			check(t, got, err, restOf(whole(of(n)), whole(p)), "X", n, p)
		}
		for _, n := range numbers() {
			got, err := X(n, p)
			check(t, got, err, powerOf(of(1), n, p), "X", n, p)
			same, _ := Pow(of(1), n, p)
			if !slices.Equal(got, same) {
				t.Errorf("X(%x, %x): %x, and Pow's is %x", n, p, got, same)
			}
		}
	}
}

func TestSquares(t *testing.T) { // P4.1: squared one by one
	for _, a := range samples() {
		for _, p := range parters() {
			want := restOf(whole(a), whole(p))
			for many := range 7 {
				got, err := Squares(a, many, p)
				check(t, got, err, want, "Squares", a, many, p)
				want = restOf(productOf(want, want), whole(p))
			}
		}
	}
}

func TestSquaresEdges(t *testing.T) { // P4.1
	for _, many := range []int{math.MinInt, -api.MostBits, -2, -1, api.MostBits + 1, api.MostBits + 2, 1 << 40, math.MaxInt} {
		for _, a := range samples() {
			for _, p := range []gfp.Poly{of(0), of(0, 1, 2), {7, 0, 0}, of(0, 70)} {
				if got, err := Squares(a, many, p); len(got) != 0 || err != api.ErrArg {
					t.Errorf("Squares(%x, %d, %x): %x, %v", a, many, p, got, err)
				}
			}
		}
	}
	for _, a := range []gfp.Poly{of(1), {2, 0, 0}, of(0, 3, 64), {top, 9}} {
		for _, p := range []gfp.Poly{of(0, 1, 2), of(0, 1, 3), of(0, 18, 65), {top, 3, 0}} {
			want := restOf(whole(a), whole(p))
			for many := range api.MostBits + 1 {
				if many == 0 || many >= api.MostBits-1 {
					got, err := Squares(a, many, p)
					check(t, got, err, want, "Squares", a, many, p)
				}
				want = restOf(productOf(want, want), whole(p))
			}
		}
	}
}

func TestSquaresExamples(t *testing.T) { // P4.1
	for _, c := range []struct {
		a    gfp.Poly
		many int
		p    gfp.Poly
		want gfp.Poly
	}{
		{of(1), 0, of(0, 1, 2), of(1)},
		{of(1), 1, of(0, 1, 2), of(0, 1)},
		{of(1), 2, of(0, 1, 2), of(1)},
		{of(1), api.MostBits - 1, of(0, 1, 2), of(0, 1)},
		{of(1), api.MostBits, of(0, 1, 2), of(1)},
		{of(5), 0, of(0, 1, 2), of(0, 1)},
		{gfp.Poly{6, 0, 0}, 0, of(0, 70), of(1, 2)},
		{of(1), 6, of(0, 65), of(64)},
		{of(1), 6, of(64), nil},
		{of(1), 128, of(0, 1, 2, 7, 128), of(1)},
		{of(0, 9), api.MostBits, of(0, 1, 2, 7, 128), of(0, 9)},
		{nil, api.MostBits, of(0, 70), nil},
	} {
		if got, err := Squares(c.a, c.many, c.p); !slices.Equal(got, c.want) || err != api.OK {
			t.Errorf("Squares(%x, %d, %x): %x, %v, not %x", c.a, c.many, c.p, got, err, c.want)
		}
	}
}

func TestRounds(t *testing.T) { // P4.1
	for i := range 128 {
		n := wide.Left(wide.Of(1), i)
		if got := Rounds(n); got != i+1 {
			t.Errorf("Rounds of 2^%d: %d", i, got)
		}
		n, _ = wide.Sub(n, wide.Of(1))
		if got := Rounds(n); got != i {
			t.Errorf("Rounds of 2^%d less 1: %d", i, got)
		}
	}
	if got := Rounds(most); got != 128 {
		t.Errorf("Rounds of the greatest number: %d", got)
	}
}

func TestBitsFromHighest(t *testing.T) { // P4.1: as many as Rounds tells, and none behind a break
	for _, n := range numbers() {
		many, back := 0, wide.U128{}
		for one := range fromHighest(n) {
			if many == 0 && !one {
				t.Errorf("the bits of %x begin with 0", n)
			}
			many++
			back = wide.Left(back, 1)
			if one {
				back.Lo |= 1
			}
		}
		if many != Rounds(n) || back != n {
			t.Errorf("the bits of %x: %d of them, put together %x", n, many, back)
		}
		many = 0
		for range fromHighest(n) {
			many++
			break
		}
		if many != min(1, Rounds(n)) {
			t.Errorf("the bits of %x, left behind the first one: %d", n, many)
		}
	}
}

// products tells all products, below a degree, of two of degree 1 and more.
func products(degree int) map[uint64]bool {
	found := map[uint64]bool{}
	for a := uint64(2); a < 1<<degree; a++ {
		for b := a; b < 1<<degree; b++ {
			_, low := gfp.Words(a, b)
			if low >= 1<<degree {
				// A greater b may have a lesser product, but none of a lesser degree.
				break
			}
			found[low] = true
		}
	}
	return found
}

func TestIrreducibleSmall(t *testing.T) { // P4.2: against all products
	const degree = 11
	counts := make([]int, degree)
	parted := products(degree)
	for w := range uint64(1) << degree {
		p := gfp.Poly{w}
		got := Irreducible(p)
		if got != (w >= 2 && !parted[w]) {
			t.Errorf("Irreducible(%x): %v", p, got)
		}
		if Irreducible(gfp.Poly{w, 0, 0}) != got {
			t.Errorf("Irreducible(%x), with words 0 at the end: %v", p, !got)
		}
		if got {
			counts[gfp.Deg(p)]++
		}
	}
	if want := []int{0, 2, 1, 2, 3, 6, 9, 18, 30, 56, 99}; !slices.Equal(counts, want) {
		t.Errorf("by their degrees: %d, not %d", counts, want)
	}
}

func TestIrreducibleExamples(t *testing.T) { // P4.2
	for degree, p := range irreducibles() {
		if gfp.Deg(p) != degree || !Irreducible(p) || !Irreducible(append(slices.Clone(p), 0, 0)) {
			t.Errorf("of degree %d: %x isn't", degree, p)
		}
	}
	for _, p := range []gfp.Poly{
		{1}, {1, 0, 0}, // degree 0
		of(2), of(0, 2), of(0, 64), of(64), of(1, 65), of(0, 65), of(0, 128), of(0, 256), of(256), of(0, 1, 256), of(1, 2, 5, 10, 256),
		of(0, 12, 257), {1 << 12, 0, 0, 0, 2}, of(0, 1, 2, 3, 320), of(0, 12, 257, 600), // of 257 and more, also irreducible ones
	} {
		if Irreducible(p) || Irreducible(append(slices.Clone(p), 0, 0)) {
			t.Errorf("%x is", p)
		}
	}
	for _, zero := range zeros() {
		if Irreducible(zero) {
			t.Errorf("%x is", zero)
		}
	}
}

func TestIrreducibleAbove(t *testing.T) { // P4.2: what nothing parts, of the degree 257
	p := of(0, 12, 257)
	power := of(1)
	for range 257 {
		power = square(power, p)
	}
	// 257 is prime: what parts x^(2^257) less x, and has no part of degree 1, is made of parts of degree 257.
	if !slices.Equal(power, of(1)) || !slices.Equal(gfdiv.Gcd(of(1, 2), p), of(0)) {
		t.Fatal("something parts the polynomial of the test")
	}
	if Irreducible(p) || Irreducible(append(p, 0, 0)) {
		t.Error("of the degree 257: is")
	}
}

func TestIrreducibleProducts(t *testing.T) { // P4.2: products of two of degree 1 and more
	l := irreducibles()
	for m, a := range l {
		for n, b := range l {
			if p := gfp.Mul(a, b); Irreducible(p) || Irreducible(append(p, 0)) {
				t.Errorf("the product of degrees %d and %d is", m, n)
			}
		}
	}
	r := rand.New(rand.NewPCG(15, 16))
	for n := 2; n <= 256; n++ {
		a, b := gfp.Poly{}, gfp.Poly{}
		half := 1 + r.IntN(n-1)
		for i := range half {
			a = gfp.Add(a, gfp.Up(gfp.Poly{r.Uint64() & 1}, i))
		}
		for i := range n - half {
			b = gfp.Add(b, gfp.Up(gfp.Poly{r.Uint64() & 1}, i))
		}
		p := gfp.Mul(gfp.Add(a, of(half)), gfp.Add(b, of(n-half)))
		if gfp.Deg(p) != n || Irreducible(p) {
			t.Errorf("the product %x is", p)
		}
	}
}

func TestIrreducibleParts(t *testing.T) { // P4.3: x^(2^d) less x is parted
	held := func(p gfp.Poly) {
		power, err := Squares(of(1), gfp.Deg(p), p)
		rest, _ := gfdiv.Mod(of(1), p)
		if !slices.Equal(power, rest) || err != api.OK {
			t.Errorf("%x doesn't part: %x, %v", p, power, err)
		}
	}
	for _, p := range irreducibles() {
		held(p)
	}
	for _, p := range small(9) {
		if Irreducible(p) {
			held(p)
		}
	}
}

func TestPowersOfSums(t *testing.T) { // P4.3
	l, ps := numbers(), parters()
	for i, m := range l {
		for j, n := range l {
			sum, over := wide.Add(m, n)
			if over {
				continue
			}
			a, p := samples()[(i+j*3)%len(samples())], ps[(i*3+j*5)%len(ps)]
			left, _ := Pow(a, m, p)
			right, _ := Pow(a, n, p)
			got, err := Pow(a, sum, p)
			if want, _ := gfdiv.MulMod(left, right, p); !slices.Equal(got, want) || err != api.OK {
				t.Errorf("Pow(%x, %x and %x, %x): %x, %v, not %x", a, m, n, p, got, err, want)
			}
		}
	}
}

func TestPowersOfPowers(t *testing.T) { // P4.3
	l, ps := numbers(), parters()
	for i, m := range l {
		for j, n := range l {
			if wide.Len(m)+wide.Len(n) > 128 {
				continue
			}
			a, p := samples()[(i*7+j)%len(samples())], ps[(i+j*11)%len(ps)]
			inner, _ := Pow(a, m, p)
			want, _ := Pow(inner, n, p)
			if got, err := Pow(a, wide.Mul(m, n), p); !slices.Equal(got, want) || err != api.OK {
				t.Errorf("Pow(%x, %x times %x, %x): %x, %v, not %x", a, m, n, p, got, err, want)
			}
		}
	}
}

func TestSquaresArePowers(t *testing.T) { // P4.3
	ps := parters()
	for i, a := range samples() {
		for many := range 128 {
			p := ps[(i+many*3)%len(ps)]
			got, err := Squares(a, many, p)
			want, _ := Pow(a, wide.Left(wide.Of(1), many), p)
			if !slices.Equal(got, want) || err != api.OK {
				t.Errorf("Squares(%x, %d, %x): %x, %v, not %x", a, many, p, got, err, want)
			}
		}
	}
}

// calls tells all calls that are given polynomials; a truth is told as a list.
func calls() map[string]func(a, p gfp.Poly) (gfp.Poly, api.Errno) {
	n := wide.U128{Hi: 1, Lo: 0b1011}
	return map[string]func(a, p gfp.Poly) (gfp.Poly, api.Errno){
		"Pow":         func(a, p gfp.Poly) (gfp.Poly, api.Errno) { return Pow(a, n, p) },
		"Pow of 0":    func(a, p gfp.Poly) (gfp.Poly, api.Errno) { return Pow(a, wide.U128{}, p) },
		"Pow of 1":    func(a, p gfp.Poly) (gfp.Poly, api.Errno) { return Pow(a, wide.Of(1), p) },
		"X":           func(_, p gfp.Poly) (gfp.Poly, api.Errno) { return X(n, p) },
		"Squares":     func(a, p gfp.Poly) (gfp.Poly, api.Errno) { return Squares(a, 5, p) },
		"Squares, 0":  func(a, p gfp.Poly) (gfp.Poly, api.Errno) { return Squares(a, 0, p) },
		"Squares, -1": func(a, p gfp.Poly) (gfp.Poly, api.Errno) { return Squares(a, -1, p) },
		"Irreducible": func(a, _ gfp.Poly) (gfp.Poly, api.Errno) {
			if Irreducible(a) {
				return gfp.Poly{1}, api.OK
			}
			return nil, api.OK
		},
	}
}

// roomy tells a list of the same words, with others behind its end.
func roomy(a gfp.Poly) gfp.Poly {
	l := append(slices.Clone(a), 91, 92, 93, 94, 95, 96, 97, 98)
	return l[:len(a)]
}

// reached tells a copy of all that a list reaches.
func reached(a gfp.Poly) gfp.Poly { return slices.Clone(a[:cap(a)]) }

// spoil overwrites all that a list reaches.
func spoil(a gfp.Poly) {
	for i := range a[:cap(a)] {
		a[:cap(a)][i] = 0xDEAD
	}
}

func TestArgumentsStay(t *testing.T) { // P4.1, P4.2: R3, R4
	for name, call := range calls() {
		for _, a := range samples() {
			for _, p := range samples() {
				x, y := roomy(a), roomy(p)
				keptX, keptY := reached(x), reached(y)
				stay := func() bool { return slices.Equal(reached(x), keptX) && slices.Equal(reached(y), keptY) }
				got, err := call(x, y)
				if !stay() {
					t.Fatalf("%s changed an argument: %x, %x", name, keptX, keptY)
				}
				again, errAgain := call(x, y)
				if !slices.Equal(got, again) || err != errAgain {
					t.Fatalf("%s answers otherwise: %x, %x", name, keptX, keptY)
				}
				spoil(got)
				third, _ := call(x, y)
				if !stay() || !slices.Equal(again, third) {
					t.Fatalf("the answer of %s shares a list: %x, %x", name, keptX, keptY)
				}
			}
		}
	}
}

func TestOneListAsBoth(t *testing.T) { // P4.1, P4.2: R3
	for name, call := range calls() {
		for _, a := range samples() {
			x := roomy(a)
			kept := reached(x)
			got, err := call(x, x)
			want, wantErr := call(a, slices.Clone(a))
			if !slices.Equal(got, want) || err != wantErr || !slices.Equal(reached(x), kept) {
				t.Errorf("%s of %x alone: %x, %v", name, a, got, err)
			}
		}
	}
}

func TestWordsZeroAtTheEnd(t *testing.T) { // P4.1, P4.2: they change no answer
	for name, call := range calls() {
		for _, a := range samples() {
			for _, p := range samples() {
				got, err := call(append(slices.Clone(a), 0, 0, 0, 0), append(slices.Clone(p), 0, 0, 0))
				want, wantErr := call(gfp.Own(a), gfp.Own(p))
				if !slices.Equal(got, want) || err != wantErr {
					t.Errorf("%s of %x, %x: %x, %v, not %x, %v", name, a, p, got, err, want, wantErr)
				}
				ownForm(t, got, name, a, p)
			}
		}
	}
}

func TestLong(t *testing.T) { // P4.1, P4.2: R1: more words than MostPoly
	r := rand.New(rand.NewPCG(17, 18))
	a, p := make(gfp.Poly, 60), make(gfp.Poly, 40)
	for i := range a {
		a[i] = r.Uint64() | 1
	}
	for i := range p {
		p[i] = r.Uint64() | 1
	}
	for _, n := range []wide.U128{wide.Of(1), wide.Of(5), {Lo: 1 << 20}} {
		got, err := Pow(a, n, p)
		check(t, got, err, powerOf(a, n, p), "Pow of many words", n)
	}
	squared, err := Squares(a, 20, p)
	check(t, squared, err, powerOf(a, wide.Of(1<<20), p), "Squares of many words")
	if Irreducible(p) {
		t.Error("many words: is")
	}
	if p := append(of(0, 1, 2, 7, 128), make(gfp.Poly, 1<<20)...); !Irreducible(p) {
		t.Error("many words 0: isn't")
	}
}
