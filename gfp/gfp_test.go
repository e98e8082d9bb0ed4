package gfp

import (
	"math"
	"math/rand/v2"
	"slices"
	"testing"

	"knucklebone/api"
)

const top = math.MaxUint64

// of tells the polynomial with a part of each power that is named.
func of(powers ...int) Poly {
	var a Poly
	for _, n := range powers {
		for len(a) <= n/64 {
			a = append(a, 0)
		}
		a[n/64] ^= 1 << (n % 64)
	}
	return a
}

// parts tells the parts of a polynomial one by one, up to its degree: what all answers are held against.
func parts(a Poly) []bool {
	var l []bool
	for i := range 64 * len(a) {
		l = append(l, a[i/64]&(1<<(i%64)) != 0)
	}
	return trimmed(l)
}

func trimmed(l []bool) []bool {
	for len(l) > 0 && !l[len(l)-1] {
		l = l[:len(l)-1]
	}
	return l
}

// sumOf tells a sum by its definition.
func sumOf(a, b []bool) []bool {
	l := make([]bool, max(len(a), len(b)))
	for i := range l {
		l[i] = (i < len(a) && a[i]) != (i < len(b) && b[i])
	}
	return trimmed(l)
}

// productOf tells a product by its definition.
func productOf(a, b []bool) []bool {
	l := make([]bool, len(a)+len(b))
	for i, x := range a {
		for j, y := range b {
			l[i+j] = l[i+j] != (x && y)
		}
	}
	return trimmed(l)
}

// upOf tells the parts moved up by n.
func upOf(a []bool, n int) []bool { return trimmed(append(make([]bool, n), a...)) }

// check holds an answer against the parts it must have, and against its own form.
func check(t *testing.T, got Poly, want []bool, call string, args ...any) {
	t.Helper()
	if !slices.Equal(parts(got), want) {
		t.Errorf("%s%v: %x", call, args, got)
	}
	if n := len(got); n > 0 && got[n-1] == 0 {
		t.Errorf("%s%v: %x isn't in its own form", call, args, got)
	}
}

// samples tells polynomials of degrees at the edges of words, some with words 0 at their ends, that are the same in each run.
func samples() []Poly {
	l := []Poly{
		nil, {}, {0}, {0, 0, 0}, {1}, {1, 0}, {1, 0, 0, 0}, {2}, {3}, {0b1011}, {top}, {top, 0}, {1 << 63}, {1 << 63, 0, 0},
		{0, 1}, {0, 1, 0}, {1, 1}, {top, top}, {0, top, 0}, {1 << 63, 1}, {0, 1 << 63}, {0, 0, 1}, {top, 0, top}, {5, 0, 0, 7, 0, 0},
	}
	for _, n := range []int{62, 63, 64, 65, 126, 127, 128, 129, 191, 192, 255, 256, 257} {
		l = append(l, of(n), of(0, n), of(1, n/2, n))
	}
	r := rand.New(rand.NewPCG(3, 4))
	for i := range 24 {
		a := make(Poly, i/4+1)
		for k := range a {
			a[k] = r.Uint64() >> (i % 3 * 20)
		}
		l = append(l, append(a, make(Poly, i%3)...))
	}
	return l
}

// small tells all polynomials of a degree below 5.
func small() []Poly {
	var l []Poly
	for w := range uint64(32) {
		l = append(l, Poly{w})
	}
	return l
}

// ups tells powers inside, and at the edges.
func ups() []int {
	l := []int{0, 1, 2, 31, 62, 63, 64, 65, 100, 127, 128, 129, 191, 192, 1000, 1023, 1024, 1025}
	return append(l, api.MostBits-65, api.MostBits-64, api.MostBits-63, api.MostBits-1, api.MostBits)
}

// beyond tells powers that may not be.
func beyond() []int {
	return []int{math.MinInt, math.MinInt + 1, -2048, -128, -65, -64, -63, -2, -1, api.MostBits + 1, api.MostBits + 2, api.MostBits + 64, 1 << 20, 1 << 40, math.MaxInt}
}

func TestOwn(t *testing.T) { // P2.1
	for _, a := range samples() {
		check(t, Own(a), parts(a), "Own", a)
	}
	for _, a := range []Poly{nil, {}, {0}, make(Poly, 40)} {
		if got := Own(a); len(got) != 0 {
			t.Errorf("Own of 0, of %d words: %x", len(a), got)
		}
	}
	if got := Own(Poly{7, 0, 9, 0, 0}); !slices.Equal(got, Poly{7, 0, 9}) {
		t.Errorf("Own of words 0 at the end: %x", got)
	}
}

func TestDeg(t *testing.T) { // P2.1
	for _, a := range samples() {
		if got, want := Deg(a), len(parts(a))-1; got != want {
			t.Errorf("Deg(%x): %d, not %d", a, got, want)
		}
	}
	for _, c := range []struct {
		a    Poly
		want int
	}{
		{nil, -1}, {Poly{}, -1}, {Poly{0}, -1}, {Poly{0, 0, 0}, -1}, {Poly{1}, 0}, {Poly{1, 0, 0}, 0}, {Poly{3}, 1},
		{Poly{1 << 63}, 63}, {Poly{top, 0}, 63}, {Poly{0, 1}, 64}, {Poly{top, 1}, 64}, {Poly{0, 1 << 63}, 127}, {Poly{0, 0, 1}, 128},
	} {
		if got := Deg(c.a); got != c.want {
			t.Errorf("Deg(%x): %d, not %d", c.a, got, c.want)
		}
	}
}

func TestBit(t *testing.T) { // P2.1
	for _, a := range samples() {
		l := parts(a)
		for i := range 64*len(a) + 70 {
			want := 0
			if i < len(l) && l[i] {
				want = 1
			}
			if got := Bit(a, i); got != want {
				t.Errorf("Bit(%x, %d): %d, not %d", a, i, got, want)
			}
		}
	}
}

func TestBitBeyond(t *testing.T) { // P2.1
	for _, a := range []Poly{nil, {}, {1}, {top}, {top, top}, {1 << 63, 1 << 63}} {
		for _, i := range []int{math.MinInt, math.MinInt + 63, -129, -128, -65, -64, -63, -2, -1} {
			if got := Bit(a, i); got != 0 {
				t.Errorf("Bit(%x, %d): %d", a, i, got)
			}
		}
		for _, i := range []int{128, 129, 191, 192, 1 << 40, math.MaxInt} {
			if got := Bit(a, i); got != 0 {
				t.Errorf("Bit(%x, %d): %d", a, i, got)
			}
		}
	}
}

func TestX(t *testing.T) { // P2.1
	for n := range api.MostBits + 1 {
		want := make(Poly, n/64+1)
		want[n/64] = 1 << (n % 64)
		if got := X(n); !slices.Equal(got, want) {
			t.Errorf("X(%d): %x", n, got)
		}
	}
	for _, n := range beyond() {
		if got := X(n); len(got) != 0 {
			t.Errorf("X(%d): %x", n, got)
		}
	}
}

func TestSame(t *testing.T) { // P2.1
	for _, a := range samples() {
		for _, b := range samples() {
			if got, want := Same(a, b), slices.Equal(parts(a), parts(b)); got != want {
				t.Errorf("Same(%x, %x): %v", a, b, got)
			}
		}
	}
	for _, c := range []struct {
		a, b Poly
		want bool
	}{
		{nil, nil, true}, {nil, Poly{}, true}, {nil, Poly{0, 0}, true}, {Poly{0}, Poly{0, 0, 0}, true}, {nil, Poly{1}, false},
		{Poly{1}, Poly{1, 0, 0}, true}, {Poly{1, 0, 0}, Poly{1}, true}, {Poly{1}, Poly{1, 0, 1}, false}, {Poly{1, 0, 1}, Poly{1}, false},
		{Poly{0, 1}, Poly{1}, false}, {Poly{0, 1}, Poly{1, 0}, false}, {Poly{5, 7}, Poly{5, 6}, false}, {Poly{5, 7}, Poly{4, 7}, false},
	} {
		if got := Same(c.a, c.b); got != c.want {
			t.Errorf("Same(%x, %x): %v", c.a, c.b, got)
		}
	}
}

func TestAdd(t *testing.T) { // P2.2
	for _, a := range samples() {
		for _, b := range samples() {
			check(t, Add(a, b), sumOf(parts(a), parts(b)), "Add", a, b)
		}
	}
	for _, c := range []struct{ a, b, want Poly }{
		{nil, nil, nil},
		{Poly{0, 0}, Poly{0}, nil},
		{Poly{0b1100}, Poly{0b1010}, Poly{0b0110}},
		{Poly{1, 2, 3}, Poly{1, 2, 3}, nil},
		{Poly{1, 2, 3}, Poly{0, 2, 3}, Poly{1}},
		{Poly{1, 2, 3}, Poly{8}, Poly{9, 2, 3}},
		{Poly{8}, Poly{1, 2, 3}, Poly{9, 2, 3}},
		{nil, Poly{4, 0}, Poly{4}},
	} {
		if got := Add(c.a, c.b); !slices.Equal(got, c.want) {
			t.Errorf("Add(%x, %x): %x, not %x", c.a, c.b, got, c.want)
		}
	}
}

func TestUp(t *testing.T) { // P2.2
	for _, a := range samples() {
		for _, n := range ups() {
			check(t, Up(a, n), upOf(parts(a), n), "Up", a, n)
		}
		for _, n := range beyond() {
			if got := Up(a, n); len(got) != 0 {
				t.Errorf("Up(%x, %d): %x", a, n, got)
			}
		}
	}
	if got := Up(Poly{1<<63 | 1}, 1); !slices.Equal(got, Poly{2, 1}) {
		t.Errorf("Up beyond a word: %x", got)
	}
	if got := Up(Poly{0, 0}, api.MostBits); len(got) != 0 {
		t.Errorf("Up of 0: %x", got)
	}
	if got := Up(X(api.MostBits), api.MostBits); Deg(got) != 2*api.MostBits || len(got) != 2*api.MostBits/64+1 {
		t.Errorf("Up beyond MostBits in all: %x", got)
	}
}

func TestMul(t *testing.T) { // P2.2
	for _, a := range samples() {
		for _, b := range samples() {
			check(t, Mul(a, b), productOf(parts(a), parts(b)), "Mul", a, b)
		}
	}
	for _, a := range small() {
		for _, b := range small() {
			check(t, Mul(a, b), productOf(parts(a), parts(b)), "Mul", a, b)
		}
	}
}

func TestMulExamples(t *testing.T) { // P2.2
	for _, c := range []struct{ a, b, want Poly }{
		{of(0, 1), of(0, 1), of(0, 2)},
		{nil, nil, nil},
		{nil, Poly{7}, nil},
		{Poly{0, 0}, Poly{7, 9}, nil},
		{Poly{7, 9}, Poly{0, 0}, nil},
		{Poly{1, 0}, Poly{7, 9, 0}, Poly{7, 9}},
		{of(0, 1), of(0, 1, 2), of(0, 3)},
		{of(63), of(1), of(64)},
		{of(63), of(63), of(126)},
		{of(64), of(64), of(128)},
		{of(0, 64), of(0, 64), of(0, 128)},
		{X(api.MostBits), X(api.MostBits), of(2 * api.MostBits)},
		{of(0, api.MostBits), of(0, api.MostBits), of(0, 2*api.MostBits)},
	} {
		if got := Mul(c.a, c.b); !slices.Equal(got, c.want) {
			t.Errorf("Mul(%x, %x): %x, not %x", c.a, c.b, got, c.want)
		}
	}
}

func TestSquare(t *testing.T) { // P2.2
	for _, a := range append(samples(), small()...) {
		check(t, Square(a), productOf(parts(a), parts(a)), "Square", a)
	}
	for _, c := range []struct{ a, want Poly }{
		{nil, nil},
		{Poly{0, 0}, nil},
		{of(0, 1), of(0, 2)},
		{of(31), of(62)},
		{of(32), of(64)},
		{of(1, 63), of(2, 126)},
		{Poly{top, 0}, Poly{0x5555555555555555, 0x5555555555555555}},
		{X(api.MostBits), of(2 * api.MostBits)},
	} {
		if got := Square(c.a); !slices.Equal(got, c.want) {
			t.Errorf("Square(%x): %x, not %x", c.a, got, c.want)
		}
	}
}

// words tells edges, powers of two, and words that are the same in each run.
func words() []uint64 {
	l := []uint64{0, 3, 5, top, top - 1, top >> 1, 0x5555555555555555, 0xAAAAAAAAAAAAAAAA, 1<<63 | 1}
	r := rand.New(rand.NewPCG(5, 6))
	for i := range 64 {
		l = append(l, 1<<i, r.Uint64()>>i)
	}
	return l
}

func TestWords(t *testing.T) { // P2.2
	for _, a := range words() {
		for _, b := range words() {
			hi, lo := Words(a, b)
			if !slices.Equal(parts(Poly{lo, hi}), productOf(parts(Poly{a}), parts(Poly{b}))) {
				t.Errorf("Words(%x, %x): %x, %x", a, b, hi, lo)
			}
		}
	}
	for _, c := range []struct{ a, b, hi, lo uint64 }{
		{0, 0, 0, 0}, {0, top, 0, 0}, {top, 0, 0, 0}, {1, top, 0, top}, {top, 1, 0, top}, {3, 3, 0, 5},
		{2, 1 << 63, 1, 0}, {1 << 63, 2, 1, 0}, {1 << 63, 1 << 63, 1 << 62, 0}, {top, top, 0x5555555555555555, 0x5555555555555555},
	} {
		if hi, lo := Words(c.a, c.b); hi != c.hi || lo != c.lo {
			t.Errorf("Words(%x, %x): %x, %x", c.a, c.b, hi, lo)
		}
	}
}

func TestTurnedAbout(t *testing.T) { // P2.3
	for _, a := range samples() {
		for _, b := range samples() {
			if !slices.Equal(Add(a, b), Add(b, a)) || !slices.Equal(Mul(a, b), Mul(b, a)) || Same(a, b) != Same(b, a) {
				t.Errorf("%x and %x can't be turned about", a, b)
			}
		}
	}
	for _, a := range words() {
		for _, b := range words() {
			hi, lo := Words(a, b)
			turnedHi, turnedLo := Words(b, a)
			if hi != turnedHi || lo != turnedLo || !Same(Mul(Poly{a}, Poly{b}), Poly{lo, hi}) {
				t.Errorf("words %x and %x can't be turned about", a, b)
			}
		}
	}
}

func TestProductsPart(t *testing.T) { // P2.3
	l := samples()
	for i, a := range l {
		for j, b := range l {
			c := l[(i*7+j*3)%len(l)]
			if !slices.Equal(Mul(a, Add(b, c)), Add(Mul(a, b), Mul(a, c))) {
				t.Errorf("%x times the sum of %x and %x", a, b, c)
			}
			if !slices.Equal(Mul(Mul(a, b), c), Mul(a, Mul(b, c))) {
				t.Errorf("the product of %x, %x and %x", a, b, c)
			}
		}
	}
}

func TestAddedTwiceIsGone(t *testing.T) { // P2.3
	for _, a := range samples() {
		if got := Add(a, a); len(got) != 0 {
			t.Errorf("%x added to itself: %x", a, got)
		}
		for _, b := range samples() {
			if got := Add(Add(a, b), b); !slices.Equal(got, Own(a)) {
				t.Errorf("%x, and %x twice: %x", a, b, got)
			}
		}
	}
}

func TestSquaresOfSums(t *testing.T) { // P2.3
	for _, a := range samples() {
		if !slices.Equal(Square(a), Mul(a, a)) {
			t.Errorf("the square of %x", a)
		}
		for _, b := range samples() {
			if !slices.Equal(Square(Add(a, b)), Add(Square(a), Square(b))) {
				t.Errorf("the square of the sum of %x and %x", a, b)
			}
		}
	}
}

func TestDegreesAddUp(t *testing.T) { // P2.3
	for _, a := range samples() {
		for _, b := range samples() {
			want := Deg(a) + Deg(b)
			if Deg(a) < 0 || Deg(b) < 0 {
				want = -1
			}
			if got := Deg(Mul(a, b)); got != want {
				t.Errorf("the degree of %x times %x: %d, not %d", a, b, got, want)
			}
		}
		for _, n := range ups() {
			if !slices.Equal(Up(a, n), Mul(a, X(n))) {
				t.Errorf("Up(%x, %d) isn't the product with X(%d)", a, n, n)
			}
		}
	}
}

// calls tells all calls that have polynomials as arguments, by what they answer.
func calls() map[string]func(a, b Poly) Poly {
	return map[string]func(a, b Poly) Poly{
		"Own":    func(a, b Poly) Poly { return Own(a) },
		"Deg":    func(a, b Poly) Poly { return Poly{uint64(Deg(a))} },
		"Bit":    func(a, b Poly) Poly { return Poly{uint64(Bit(a, 1) + Bit(a, -1) + Bit(a, 300))} },
		"Add":    Add,
		"Up 0":   func(a, b Poly) Poly { return Up(a, 0) },
		"Up 64":  func(a, b Poly) Poly { return Up(a, 64) },
		"Up 65":  func(a, b Poly) Poly { return Up(a, 65) },
		"Up -1":  func(a, b Poly) Poly { return Up(a, -1) },
		"Mul":    Mul,
		"Square": func(a, b Poly) Poly { return Square(a) },
		"Same": func(a, b Poly) Poly {
			if Same(a, b) {
				return Poly{1}
			}
			return nil
		},
	}
}

// roomy tells a list of the same words, with others behind its end.
func roomy(a Poly) Poly {
	l := append(slices.Clone(a), 91, 92, 93, 94, 95, 96, 97, 98)
	return l[:len(a)]
}

// spoil overwrites all that a list reaches.
func spoil(a Poly) {
	for i := range a[:cap(a)] {
		a[:cap(a)][i] = 0xDEAD
	}
}

func TestArgumentsStay(t *testing.T) { // P2.1, P2.2: R3
	for name, call := range calls() {
		for _, a := range samples() {
			for _, b := range samples() {
				x, y := roomy(a), roomy(b)
				keptX, keptY := slices.Clone(x[:cap(x)]), slices.Clone(y[:cap(y)])
				answer := call(x, y)
				if !slices.Equal(x[:cap(x)], keptX) || !slices.Equal(y[:cap(y)], keptY) {
					t.Fatalf("%s changed an argument: %x, %x", name, a, b)
				}
				spoil(answer)
				if !slices.Equal(x[:cap(x)], keptX) || !slices.Equal(y[:cap(y)], keptY) {
					t.Fatalf("the answer of %s shares an argument: %x, %x", name, a, b)
				}
				if again := call(x, y); !slices.Equal(again, call(a, b)) {
					t.Fatalf("%s answers otherwise: %x, %x", name, a, b)
				}
			}
		}
	}
}

func TestOneListTwice(t *testing.T) { // P2.2: R3
	for _, a := range samples() {
		x := roomy(a)
		if !slices.Equal(Add(x, x), Add(a, slices.Clone(a))) || !slices.Equal(Mul(x, x), Mul(a, slices.Clone(a))) || !Same(x, x) {
			t.Errorf("%x as both arguments", a)
		}
		if !slices.Equal(x, a) {
			t.Errorf("%x was changed: %x", a, x)
		}
	}
}

func TestXIsNew(t *testing.T) { // P2.1: R3, R5
	spoil(X(130))
	if got := X(130); !slices.Equal(got, Poly{0, 0, 4}) {
		t.Errorf("X shares what it told: %x", got)
	}
}
