package gfdiv

import (
	"math"
	"math/rand/v2"
	"slices"
	"testing"

	"knucklebone/api"
	"knucklebone/gfp"
)

const top = math.MaxUint64

// of tells the polynomial with a part of each power that is named.
func of(powers ...int) gfp.Poly {
	var a gfp.Poly
	for _, n := range powers {
		for len(a) <= n/64 {
			a = append(a, 0)
		}
		a[n/64] ^= 1 << (n % 64)
	}
	return a
}

// parts tells the parts of a polynomial one by one, up to its degree: what all answers are held against.
func parts(a gfp.Poly) []bool {
	var l []bool
	for i := range 64 * len(a) {
		l = append(l, a[i/64]&(1<<(i%64)) != 0)
	}
	return trimmed(l)
}

func trimmed(l []bool) []bool {
	for len(l) > 0 && !l[len(l)-1] {
		l = l[:len(l)-1]
	}
	return l
}

// sumOf tells a sum by its definition.
func sumOf(a, b []bool) []bool {
	l := make([]bool, max(len(a), len(b)))
	for i := range l {
		l[i] = (i < len(a) && a[i]) != (i < len(b) && b[i])
	}
	return trimmed(l)
}

// productOf tells a product by its definition.
func productOf(a, b []bool) []bool {
	l := make([]bool, len(a)+len(b))
	for i, x := range a {
		for j, y := range b {
			l[i+j] = l[i+j] != (x && y)
		}
	}
	return trimmed(l)
}

// partedOf tells quotient and rest, part by part, as by hand; b isn't 0.
func partedOf(a, b []bool) (quotient, rest []bool) {
	rest = slices.Clone(a)
	quotient = make([]bool, len(a))
	for len(rest) >= len(b) {
		n := len(rest) - len(b)
		quotient[n] = true
		rest = sumOf(rest, append(make([]bool, n), b...))
	}
	return trimmed(quotient), rest
}

// greatestOf tells the greatest part by rests.
func greatestOf(a, b []bool) []bool {
	for len(b) > 0 {
		_, rest := partedOf(a, b)
		a, b = b, rest
	}
	return a
}

// ownForm holds that an answer has no word 0 at its end.
func ownForm(t *testing.T, got gfp.Poly, call string, args ...any) {
	t.Helper()
	if n := len(got); n > 0 && got[n-1] == 0 {
		t.Errorf("%s%x: %x isn't in its own form", call, args, got)
	}
}

// check holds an answer against the parts it must have, and against its own form.
func check(t *testing.T, got gfp.Poly, want []bool, call string, args ...any) {
	t.Helper()
	if !slices.Equal(parts(got), want) {
		t.Errorf("%s%x: %x", call, args, got)
	}
	ownForm(t, got, call, args...)
}

// zeros tells all shapes of 0.
func zeros() []gfp.Poly { return []gfp.Poly{nil, {}, {0}, {0, 0}, make(gfp.Poly, 40)} }

// samples tells polynomials of degrees at the edges of words, some with words 0 at their ends, that are the same in each run.
func samples() []gfp.Poly {
	l := []gfp.Poly{
		nil, {0}, {0, 0, 0}, {1}, {1, 0, 0, 0}, {2}, {3}, {0b1011}, {top}, {top, 0}, {1 << 63}, {1 << 63, 0, 0},
		{0, 1}, {0, 1, 0}, {1, 1}, {top, top}, {0, top, 0}, {1 << 63, 1}, {0, 1 << 63}, {0, 0, 1}, {top, 0, top}, {5, 0, 0, 7, 0, 0},
	}
	for _, n := range []int{62, 63, 64, 65, 127, 128, 129, 192, 255, 256} {
		l = append(l, of(0, n), of(1, n/2, n))
	}
	r := rand.New(rand.NewPCG(7, 8))
	for i := range 16 {
		a := make(gfp.Poly, i/4+1)
		for k := range a {
			a[k] = r.Uint64() >> (i % 3 * 20)
		}
		l = append(l, append(a, make(gfp.Poly, i%3)...))
	}
	return l
}

// parters tells the samples that are not 0.
func parters() []gfp.Poly {
	return slices.DeleteFunc(samples(), func(a gfp.Poly) bool { return len(parts(a)) == 0 })
}

// small tells all polynomials of a degree below so many.
func small(bits int) []gfp.Poly {
	var l []gfp.Poly
	for w := range uint64(1) << bits {
		l = append(l, gfp.Poly{w})
	}
	return l
}

func TestDiv(t *testing.T) { // P3.1
	for _, a := range samples() {
		for _, b := range parters() {
			quotient, rest, err := Div(a, b)
			if err != api.OK {
				t.Errorf("Div(%x, %x): %v", a, b, err)
			}
			wantQuotient, wantRest := partedOf(parts(a), parts(b))
			check(t, quotient, wantQuotient, "the quotient of Div", a, b)
			check(t, rest, wantRest, "the rest of Div", a, b)
		}
	}
}

func TestDivSmall(t *testing.T) { // P3.1
	for _, a := range small(7) {
		for _, b := range small(5)[1:] {
			quotient, rest, err := Div(a, b)
			if err != api.OK || !slices.Equal(sumOf(productOf(parts(quotient), parts(b)), parts(rest)), parts(a)) || len(parts(rest)) >= len(parts(b)) {
				t.Errorf("Div(%x, %x): %x, %x, %v", a, b, quotient, rest, err)
			}
			ownForm(t, quotient, "the quotient of Div", a, b)
			ownForm(t, rest, "the rest of Div", a, b)
		}
	}
}

func TestDivExamples(t *testing.T) { // P3.1
	for _, c := range []struct{ a, b, quotient, rest gfp.Poly }{
		{of(0, 1, 3), of(0, 1), of(1, 2), of(0)},
		{nil, of(0), nil, nil},
		{gfp.Poly{0, 0}, of(0, 5), nil, nil},
		{of(0), of(0), of(0), nil},
		{of(0), of(1), nil, of(0)},
		{of(0, 2), of(0, 1), of(0, 1), nil},
		{of(0, 2), gfp.Poly{3, 0, 0}, of(0, 1), nil},
		{gfp.Poly{5, 0, 0}, of(0, 1), of(0, 1), nil},
		{of(0, 1), of(0, 3), nil, of(0, 1)},
		{gfp.Poly{3, 0}, gfp.Poly{9, 0, 0}, nil, of(0, 1)},
		{gfp.Poly{top, 7}, of(0), gfp.Poly{top, 7}, nil},
		{gfp.Poly{top, 7}, of(64), gfp.Poly{7}, gfp.Poly{top}},
		{of(63), of(63), of(0), nil},
		{of(64), of(63), of(1), nil},
		{of(63), of(64), nil, of(63)},
		{of(0, 64), of(0, 63), of(1), of(0, 1)},
		{of(0, 64), of(0, 64), of(0), nil},
		{of(0, 64), of(1, 64), of(0), of(0, 1)},
		{of(127), of(1), of(126), nil},
		{of(128), of(64), of(64), nil},
		{of(0, 128), of(0, 64), of(0, 64), nil},
		{of(0, 128), of(0, 1), gfp.Poly{top, top}, nil},
		{of(64, 129), of(64), of(0, 65), nil},
	} {
		quotient, rest, err := Div(c.a, c.b)
		if !slices.Equal(quotient, c.quotient) || !slices.Equal(rest, c.rest) || err != api.OK {
			t.Errorf("Div(%x, %x): %x, %x, %v, not %x, %x", c.a, c.b, quotient, rest, err, c.quotient, c.rest)
		}
	}
}

func TestDivByZero(t *testing.T) { // P3.1
	for _, a := range samples() {
		for _, zero := range zeros() {
			if quotient, rest, err := Div(a, zero); len(quotient) != 0 || len(rest) != 0 || err != api.ErrZero {
				t.Errorf("Div(%x, %x): %x, %x, %v", a, zero, quotient, rest, err)
			}
		}
	}
}

func TestDivFarApart(t *testing.T) { // P3.1: degrees that are farther apart than gfp.Up goes
	far := of(0, 5, 64, api.MostBits, 2*api.MostBits+1, 3*api.MostBits+77)
	for _, b := range []gfp.Poly{of(0), of(1), of(0, 1), of(0, 1, 3), of(63), of(0, 64), of(2, 65), of(0, api.MostBits), {top, top, 0}} {
		quotient, rest, err := Div(far, b)
		if err != api.OK {
			t.Errorf("by %x: %v", b, err)
		}
		wantQuotient, wantRest := partedOf(parts(far), parts(b))
		check(t, quotient, wantQuotient, "the far quotient", b)
		check(t, rest, wantRest, "the far rest", b)
		got, err := Mod(far, b)
		if err != api.OK {
			t.Errorf("Mod by %x: %v", b, err)
		}
		check(t, got, wantRest, "Mod from afar", b)
		check(t, Gcd(far, b), greatestOf(parts(far), parts(b)), "Gcd from afar", b)
		check(t, Gcd(b, far), greatestOf(parts(far), parts(b)), "Gcd from afar, turned about", b)
	}
	for n := api.MostBits - 2; n < api.MostBits+3; n++ {
		if quotient, rest, err := Div(of(3, n+4), of(4)); !slices.Equal(quotient, of(n)) || !slices.Equal(rest, of(3)) || err != api.OK {
			t.Errorf("x^%d and x^3 by x^4: %x, %x, %v", n+4, quotient, rest, err)
		}
	}
}

func TestMod(t *testing.T) { // P3.1
	for _, a := range samples() {
		for _, p := range parters() {
			got, err := Mod(a, p)
			if err != api.OK {
				t.Errorf("Mod(%x, %x): %v", a, p, err)
			}
			_, want := partedOf(parts(a), parts(p))
			check(t, got, want, "Mod", a, p)
		}
		for _, zero := range zeros() {
			if got, err := Mod(a, zero); len(got) != 0 || err != api.ErrZero {
				t.Errorf("Mod(%x, %x): %x, %v", a, zero, got, err)
			}
		}
	}
	if got, err := Mod(of(0, 1, 3), of(0, 1)); !slices.Equal(got, of(0)) || err != api.OK {
		t.Errorf("Mod of the example: %x, %v", got, err)
	}
}

func TestMulMod(t *testing.T) { // P3.1
	l, ps := samples(), parters()
	for i, a := range l {
		for j, b := range l {
			p := ps[(i*5+j*11)%len(ps)]
			got, err := MulMod(a, b, p)
			if err != api.OK {
				t.Errorf("MulMod(%x, %x, %x): %v", a, b, p, err)
			}
			_, want := partedOf(productOf(parts(a), parts(b)), parts(p))
			check(t, got, want, "MulMod", a, b, p)
		}
	}
	for _, a := range small(5) {
		for _, b := range small(5) {
			for _, p := range small(4)[1:] {
				got, err := MulMod(a, b, p)
				_, want := partedOf(productOf(parts(a), parts(b)), parts(p))
				if err != api.OK {
					t.Errorf("MulMod(%x, %x, %x): %v", a, b, p, err)
				}
				check(t, got, want, "MulMod", a, b, p)
			}
		}
	}
}

func TestMulModExamples(t *testing.T) { // P3.1
	for _, c := range []struct{ a, b, p, want gfp.Poly }{
		{of(1), of(1), of(0, 1, 2), of(0, 1)},
		{of(1), of(0, 1), of(0, 1, 2), of(0)},
		{of(0, 1), of(0, 1), of(0, 2), nil},
		{gfp.Poly{2, 0}, gfp.Poly{2, 0, 0}, gfp.Poly{7, 0}, of(0, 1)},
		{nil, of(5), of(3), nil},
		{of(5), gfp.Poly{0}, of(3), nil},
		{of(5), of(7), of(0), nil},
		{of(63), of(1), of(0, 64), of(0)},
		{of(63), of(63), of(0, 1, 127), of(126)},
		{of(64), of(64), of(0, 1, 127), of(1, 2)},
		{of(api.MostBits), of(api.MostBits), of(0, 3), of(1)},
	} {
		if got, err := MulMod(c.a, c.b, c.p); !slices.Equal(got, c.want) || err != api.OK {
			t.Errorf("MulMod(%x, %x, %x): %x, %v, not %x", c.a, c.b, c.p, got, err, c.want)
		}
	}
}

func TestMulModByZero(t *testing.T) { // P3.1
	for _, a := range samples() {
		for _, zero := range zeros() {
			if got, err := MulMod(a, of(0, 70), zero); len(got) != 0 || err != api.ErrZero {
				t.Errorf("MulMod(%x, .., %x): %x, %v", a, zero, got, err)
			}
			if got, err := MulMod(nil, a, zero); len(got) != 0 || err != api.ErrZero {
				t.Errorf("MulMod(0, %x, %x): %x, %v", a, zero, got, err)
			}
		}
	}
}

// sharedParts tells, of a list, what parts both without a rest.
func sharedParts(l []gfp.Poly, a, b gfp.Poly) []gfp.Poly {
	var shared []gfp.Poly
	for _, d := range l {
		if len(parts(d)) == 0 {
			continue
		}
		_, restA := partedOf(parts(a), parts(d))
		_, restB := partedOf(parts(b), parts(d))
		if len(restA) == 0 && len(restB) == 0 {
			shared = append(shared, d)
		}
	}
	return shared
}

func TestGcdSmall(t *testing.T) { // P3.1, P3.3: against all that parts both
	l := small(6)
	for _, a := range l {
		for _, b := range l {
			got := Gcd(a, b)
			ownForm(t, got, "Gcd", a, b)
			if len(parts(a)) == 0 && len(parts(b)) == 0 {
				if len(got) != 0 {
					t.Errorf("Gcd of both 0: %x", got)
				}
				continue
			}
			var want gfp.Poly
			shared := sharedParts(l, a, b)
			for _, d := range shared {
				if len(parts(d)) > len(parts(want)) {
					want = d
				}
			}
			check(t, got, parts(want), "Gcd", a, b)
			for _, d := range shared {
				if _, rest := partedOf(parts(got), parts(d)); len(rest) != 0 {
					t.Errorf("%x parts %x and %x, and not Gcd's %x", d, a, b, got)
				}
			}
		}
	}
}

func TestGcd(t *testing.T) { // P3.1
	for _, a := range samples() {
		for _, b := range samples() {
			check(t, Gcd(a, b), greatestOf(parts(a), parts(b)), "Gcd", a, b)
		}
	}
}

func TestGcdExamples(t *testing.T) { // P3.1
	for _, c := range []struct{ a, b, want gfp.Poly }{
		{of(0, 2), of(0, 1), of(0, 1)},
		{of(0, 1), of(0, 2), of(0, 1)},
		{of(0, 1), of(1), of(0)},
		{nil, of(3, 70), of(3, 70)},
		{of(3, 70), nil, of(3, 70)},
		{gfp.Poly{0, 0}, gfp.Poly{6, 0, 0}, of(1, 2)},
		{gfp.Poly{6, 0, 0}, gfp.Poly{0, 0}, of(1, 2)},
		{gfp.Poly{6, 0, 0}, gfp.Poly{6}, of(1, 2)},
		{of(0), of(5, 100), of(0)},
		{of(63), of(64), of(63)},
		{of(64), of(63), of(63)},
		{of(64), of(128), of(64)},
		{of(0, 64), of(0, 128), of(0, 64)},
		{of(0, 63), of(0, 127), of(0, 1)}, // 63 and 127 have no common part but 1
		{of(0, 90), of(0, 60), of(0, 30)},
		{of(0, 126), of(0, 189), of(0, 63)},
		{of(0, 128), of(0, 192), of(0, 64)},
	} {
		if got := Gcd(c.a, c.b); !slices.Equal(got, c.want) {
			t.Errorf("Gcd(%x, %x): %x, not %x", c.a, c.b, got, c.want)
		}
	}
}

func TestGcdOfZeros(t *testing.T) { // P3.1
	for _, a := range zeros() {
		for _, b := range zeros() {
			if got := Gcd(a, b); len(got) != 0 {
				t.Errorf("Gcd(%x, %x): %x", a, b, got)
			}
		}
		for _, b := range samples() {
			check(t, Gcd(a, b), parts(b), "Gcd", a, b)
			check(t, Gcd(b, a), parts(b), "Gcd", b, a)
		}
	}
}

// inverseOf tells the only polynomial of a lesser degree than p's that makes the rest of 1, gone through one by one.
func inverseOf(a, p gfp.Poly, l []gfp.Poly) (gfp.Poly, bool) {
	_, one := partedOf(parts(of(0)), parts(p))
	for _, b := range l {
		if len(parts(b)) >= len(parts(p)) {
			continue
		}
		if _, rest := partedOf(productOf(parts(a), parts(b)), parts(p)); slices.Equal(rest, one) {
			return b, true
		}
	}
	return nil, false
}

func TestInverseSmall(t *testing.T) { // P3.2: against all that may be
	l := small(5)
	for _, a := range small(7) {
		for _, p := range l[2:] {
			got, err := Inverse(a, p)
			want, ok := inverseOf(a, p, l)
			if !ok && (err != api.ErrArg || len(got) != 0) || ok && err != api.OK {
				t.Errorf("Inverse(%x, %x): %x, %v", a, p, got, err)
			}
			check(t, got, parts(want), "Inverse", a, p)
		}
	}
}

func TestInverse(t *testing.T) { // P3.2
	found, refused := 0, 0
	for _, a := range samples() {
		for _, p := range parters() {
			got, err := Inverse(a, p)
			if len(greatestOf(parts(a), parts(p))) != 1 {
				refused++
				if len(got) != 0 || err != api.ErrArg {
					t.Errorf("Inverse(%x, %x): %x, %v", a, p, got, err)
				}
				continue
			}
			found++
			_, rest := partedOf(productOf(parts(a), parts(got)), parts(p))
			_, one := partedOf(parts(of(0)), parts(p))
			if err != api.OK || len(parts(got)) >= len(parts(p)) || !slices.Equal(rest, one) {
				t.Errorf("Inverse(%x, %x): %x, %v", a, p, got, err)
			}
			ownForm(t, got, "Inverse", a, p)
		}
	}
	if found < 500 || refused < 500 {
		t.Errorf("the samples hold too little: %d inverses, %d refused", found, refused)
	}
}

func TestInverseExamples(t *testing.T) { // P3.2
	for _, c := range []struct {
		a, p, want gfp.Poly
		err        api.Errno
	}{
		{of(1), of(0, 1, 2), of(0, 1), api.OK},
		{of(0), of(0, 1, 2), of(0), api.OK},
		{of(0), of(1), of(0), api.OK},
		{of(0, 1), of(1), of(0), api.OK},
		{of(0, 1, 2), of(0, 1, 2), nil, api.ErrArg},
		{of(0, 1), of(0, 2), nil, api.ErrArg},
		{of(1), of(64), nil, api.ErrArg},
		{of(0, 1), of(64), gfp.Poly{top}, api.OK},
		{gfp.Poly{3, 0, 0}, gfp.Poly{0, 1, 0, 0}, gfp.Poly{top}, api.OK},
		{of(1), of(0, 64), of(63), api.OK},
		{of(63), of(0, 64), of(1), api.OK},
		{of(64), of(0, 64), of(0), api.OK},
		{of(1), of(0, 65), of(64), api.OK},
		{of(3*api.MostBits + 1), of(0, 1, 2), of(0, 1), api.OK},
		{of(1), of(0, 3*api.MostBits), of(3*api.MostBits - 1), api.OK},
	} {
		if got, err := Inverse(c.a, c.p); !slices.Equal(got, c.want) || err != c.err {
			t.Errorf("Inverse(%x, %x): %x, %v, not %x, %v", c.a, c.p, got, err, c.want, c.err)
		}
	}
}

func TestInverseOfNone(t *testing.T) { // P3.2: p 0 comes ahead of all, and p 1 has the inverse 0
	for _, a := range samples() {
		for _, zero := range zeros() {
			if got, err := Inverse(a, zero); len(got) != 0 || err != api.ErrZero {
				t.Errorf("Inverse(%x, %x): %x, %v", a, zero, got, err)
			}
		}
		for _, one := range []gfp.Poly{{1}, {1, 0}, {1, 0, 0}} {
			if got, err := Inverse(a, one); len(got) != 0 || err != api.OK {
				t.Errorf("Inverse(%x, %x): %x, %v", a, one, got, err)
			}
		}
	}
	for _, zero := range zeros() {
		for _, p := range parters() {
			want := api.ErrArg
			if len(parts(p)) == 1 {
				want = api.OK
			}
			if got, err := Inverse(zero, p); len(got) != 0 || err != want {
				t.Errorf("Inverse(%x, %x): %x, %v", zero, p, got, err)
			}
		}
	}
}

func TestInverseOfInverse(t *testing.T) { // P3.2
	p := of(0, 3, 4, 6, 127) // 1 at 0, so that no power of x parts it
	for _, a := range samples() {
		there, err := Inverse(a, p)
		if err != api.OK {
			continue
		}
		back, err := Inverse(there, p)
		want, _ := Mod(a, p)
		if err != api.OK || !slices.Equal(back, want) {
			t.Errorf("there and back from %x: %x, %v", a, back, err)
		}
	}
}

func TestPutTogether(t *testing.T) { // P3.3
	for _, a := range samples() {
		for _, b := range parters() {
			quotient, rest, _ := Div(a, b)
			if got := gfp.Add(gfp.Mul(quotient, b), rest); !slices.Equal(got, gfp.Own(a)) || gfp.Deg(rest) >= gfp.Deg(b) {
				t.Errorf("%x parted by %x is put together as %x", a, b, got)
			}
			back, none, err := Div(gfp.Mul(a, b), b)
			if !slices.Equal(back, gfp.Own(a)) || len(none) != 0 || err != api.OK {
				t.Errorf("%x times %x, parted again: %x, %x, %v", a, b, back, none, err)
			}
			alone, err := Mod(a, b)
			if !slices.Equal(alone, rest) || err != api.OK {
				t.Errorf("Mod(%x, %x): %x, %v, and Div's rest is %x", a, b, alone, err, rest)
			}
		}
	}
}

func TestGreatestPartsBoth(t *testing.T) { // P3.3
	for _, a := range samples() {
		for _, b := range samples() {
			d := Gcd(a, b)
			if !slices.Equal(d, Gcd(b, a)) {
				t.Errorf("Gcd of %x and %x can't be turned about", a, b)
			}
			if len(d) == 0 {
				continue
			}
			restA, _ := Mod(a, d)
			restB, _ := Mod(b, d)
			if len(restA) != 0 || len(restB) != 0 {
				t.Errorf("%x doesn't part both %x and %x", d, a, b)
			}
		}
	}
}

func TestGreatestIsPartedByAll(t *testing.T) { // P3.3
	l, shared := samples(), []gfp.Poly{of(0), of(1), of(0, 1), of(0, 1, 3), of(0, 63), of(2, 64), {top, 5, 0}, {top, top, 1}}
	for i, a := range l {
		for j, b := range l {
			d := shared[(i+j)%len(shared)]
			got := Gcd(gfp.Mul(a, d), gfp.Mul(b, d))
			if !slices.Equal(got, gfp.Mul(Gcd(a, b), d)) {
				t.Errorf("Gcd of %x and %x, both times %x: %x", a, b, d, got)
			}
		}
	}
}

func TestRestsOfRests(t *testing.T) { // P3.3
	l, ps := samples(), parters()
	for i, a := range l {
		for j, b := range l {
			p := ps[(i*3+j*7)%len(ps)]
			restA, _ := Mod(a, p)
			restB, _ := Mod(b, p)
			sum, _ := Mod(gfp.Add(a, b), p)
			sumOfRests, _ := Mod(gfp.Add(restA, restB), p)
			if !slices.Equal(sum, sumOfRests) || !slices.Equal(sum, gfp.Add(restA, restB)) {
				t.Errorf("the sum of %x and %x by %x", a, b, p)
			}
			product, _ := Mod(gfp.Mul(a, b), p)
			productOfRests, _ := Mod(gfp.Mul(restA, restB), p)
			straight, _ := MulMod(a, b, p)
			turned, _ := MulMod(restB, restA, p)
			if !slices.Equal(product, productOfRests) || !slices.Equal(product, straight) || !slices.Equal(product, turned) {
				t.Errorf("the product of %x and %x by %x", a, b, p)
			}
		}
	}
}

// calls tells all calls, by the lists that they answer.
func calls() map[string]func(a, b, c gfp.Poly) ([]gfp.Poly, api.Errno) {
	return map[string]func(a, b, c gfp.Poly) ([]gfp.Poly, api.Errno){
		"Div": func(a, b, c gfp.Poly) ([]gfp.Poly, api.Errno) {
			quotient, rest, err := Div(a, b)
			return []gfp.Poly{quotient, rest}, err
		},
		"Mod": func(a, b, c gfp.Poly) ([]gfp.Poly, api.Errno) {
			rest, err := Mod(a, b)
			return []gfp.Poly{rest}, err
		},
		"Gcd": func(a, b, c gfp.Poly) ([]gfp.Poly, api.Errno) { return []gfp.Poly{Gcd(a, b)}, api.OK },
		"MulMod": func(a, b, c gfp.Poly) ([]gfp.Poly, api.Errno) {
			rest, err := MulMod(a, b, c)
			return []gfp.Poly{rest}, err
		},
		"Inverse": func(a, b, c gfp.Poly) ([]gfp.Poly, api.Errno) {
			inverse, err := Inverse(a, b)
			return []gfp.Poly{inverse}, err
		},
	}
}

// roomy tells a list of the same words, with others behind its end.
func roomy(a gfp.Poly) gfp.Poly {
	l := append(slices.Clone(a), 91, 92, 93, 94, 95, 96, 97, 98)
	return l[:len(a)]
}

// reached tells a copy of all that a list reaches.
func reached(a gfp.Poly) gfp.Poly { return slices.Clone(a[:cap(a)]) }

// spoil overwrites all that a list reaches.
func spoil(a gfp.Poly) {
	for i := range a[:cap(a)] {
		a[:cap(a)][i] = 0xDEAD
	}
}

func sameLists(a, b []gfp.Poly) bool {
	return slices.EqualFunc(a, b, func(x, y gfp.Poly) bool { return slices.Equal(x, y) })
}

func TestArgumentsStay(t *testing.T) { // P3.1, P3.2: R3, R4
	l := samples()
	for name, call := range calls() {
		for i, a := range l {
			for j, b := range l {
				args := []gfp.Poly{roomy(a), roomy(b), roomy(l[(i*3+j*5)%len(l)])}
				kept := []gfp.Poly{reached(args[0]), reached(args[1]), reached(args[2])}
				stay := func() bool {
					return sameLists(kept, []gfp.Poly{reached(args[0]), reached(args[1]), reached(args[2])})
				}
				answers, err := call(args[0], args[1], args[2])
				if !stay() {
					t.Fatalf("%s changed an argument: %x", name, kept)
				}
				again, errAgain := call(args[0], args[1], args[2])
				if !sameLists(answers, again) || err != errAgain {
					t.Fatalf("%s answers otherwise: %x", name, kept)
				}
				for k := range answers {
					spoil(answers[k])
					if !stay() || k+1 < len(answers) && !sameLists(answers[k+1:], again[k+1:]) {
						t.Fatalf("the answer %d of %s shares a list: %x", k, name, kept)
					}
				}
			}
		}
	}
}

func TestOneListAsAll(t *testing.T) { // P3.1, P3.2: R3
	for name, call := range calls() {
		for _, a := range samples() {
			x := roomy(a)
			kept := reached(x)
			got, err := call(x, x, x)
			want, wantErr := call(a, slices.Clone(a), slices.Clone(a))
			if !sameLists(got, want) || err != wantErr || !slices.Equal(reached(x), kept) {
				t.Errorf("%s of %x alone: %x, %v", name, a, got, err)
			}
		}
	}
}

func TestWordsZeroAtTheEnd(t *testing.T) { // P3.1, P3.2: they change no answer
	l := samples()
	for name, call := range calls() {
		for i, a := range l {
			for j, b := range l {
				c := l[(i*7+j*2)%len(l)]
				got, err := call(append(slices.Clone(a), 0, 0, 0, 0), append(slices.Clone(b), 0, 0, 0), append(slices.Clone(c), 0, 0))
				want, wantErr := call(gfp.Own(a), gfp.Own(b), gfp.Own(c))
				if !sameLists(got, want) || err != wantErr {
					t.Errorf("%s of %x, %x, %x: %x, %v, not %x, %v", name, a, b, c, got, err, want, wantErr)
				}
			}
		}
	}
}

// long tells a polynomial of so many words that is the same in each run.
func long(words int, seed uint64) gfp.Poly {
	r := rand.New(rand.NewPCG(seed, 9))
	a := make(gfp.Poly, words)
	for i := range a {
		a[i] = r.Uint64() | 1
	}
	return a
}

func TestLong(t *testing.T) { // P3.1, P3.2: R1: more words than MostPoly, and many steps
	a, b, p := long(300, 1), long(200, 2), long(150, 3)
	quotient, rest, err := Div(a, b)
	if err != api.OK || gfp.Deg(rest) >= gfp.Deg(b) || !gfp.Same(gfp.Add(gfp.Mul(quotient, b), rest), a) {
		t.Errorf("Div of many words: %v", err)
	}
	if got, want := Gcd(gfp.Mul(a, p), gfp.Mul(b, p)), gfp.Mul(Gcd(a, b), p); !slices.Equal(got, want) {
		t.Error("Gcd of many words")
	}
	inverse, err := Inverse(a, p)
	if len(Gcd(a, p)) != 1 || Gcd(a, p)[0] != 1 {
		if err != api.ErrArg {
			t.Errorf("Inverse of many words: %v", err)
		}
		return
	}
	if one, _ := MulMod(a, inverse, p); err != api.OK || gfp.Deg(inverse) >= gfp.Deg(p) || !slices.Equal(one, of(0)) {
		t.Errorf("Inverse of many words: %v", err)
	}
}
