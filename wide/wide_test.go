package wide

import (
	"bytes"
	"math"
	"math/big"
	"math/rand/v2"
	"testing"

	"knucklebone/api"
)

const top = math.MaxUint64

var most = U128{top, top}

// samples tells edges, and numbers of all lengths that are the same in each run.
func samples() []U128 {
	l := []U128{
		{0, 0}, {0, 1}, {0, 2}, {0, 9}, {0, 10}, {0, 11}, {0, 1 << 63}, {0, top - 1}, {0, top},
		{1, 0}, {1, 1}, {1, top}, {9, 0}, {10, 0}, {top, 0}, {top, 1}, {1 << 63, 0}, {1 << 63, 1},
		{1<<63 - 1, top}, {top, top - 1}, {top, top},
	}
	r := rand.New(rand.NewPCG(1, 2))
	for i := range 40 {
		l = append(l, Right(U128{r.Uint64(), r.Uint64()}, i*3))
	}
	return l
}

// shifts tells numbers of steps inside, at the edges, and beyond them.
func shifts() []int {
	l := []int{math.MinInt, -129, -128, -64, -1, 129, 192, 256, 1 << 40, math.MaxInt}
	for n := range 129 {
		l = append(l, n)
	}
	return l
}

func toBig(a U128) *big.Int {
	hi := new(big.Int).SetUint64(a.Hi)
	return hi.Lsh(hi, 64).Add(hi, new(big.Int).SetUint64(a.Lo))
}

func whole() *big.Int { return new(big.Int).Lsh(big.NewInt(1), 128) }

// fromBig tells a number modulo 2^128.
func fromBig(n *big.Int) U128 {
	low := new(big.Int).Mod(n, whole())
	word := new(big.Int).SetUint64(top)
	return U128{new(big.Int).Rsh(low, 64).Uint64(), new(big.Int).And(low, word).Uint64()}
}

func sum(a, b U128) U128 {
	s, _ := Add(a, b)
	return s
}

func TestOf(t *testing.T) { // P1.1
	for _, n := range []uint64{0, 1, 1 << 63, top} {
		if got := Of(n); got != (U128{0, n}) {
			t.Errorf("Of(%d): %v", n, got)
		}
	}
}

func TestCmp(t *testing.T) { // P1.1
	for _, a := range samples() {
		for _, b := range samples() {
			if got, want := Cmp(a, b), toBig(a).Cmp(toBig(b)); got != want {
				t.Errorf("Cmp(%v, %v): %d, not %d", a, b, got, want)
			}
		}
	}
}

func TestAddSub(t *testing.T) { // P1.1
	for _, a := range samples() {
		for _, b := range samples() {
			s := new(big.Int).Add(toBig(a), toBig(b))
			if got, over := Add(a, b); got != fromBig(s) || over != (s.Cmp(whole()) >= 0) {
				t.Errorf("Add(%v, %v): %v, %v", a, b, got, over)
			}
			d := new(big.Int).Sub(toBig(a), toBig(b))
			if got, under := Sub(a, b); got != fromBig(d) || under != (d.Sign() < 0) {
				t.Errorf("Sub(%v, %v): %v, %v", a, b, got, under)
			}
		}
	}
}

func TestAddSubEdges(t *testing.T) { // P1.1
	for _, c := range []struct {
		a, b, sum U128
		over      bool
		less      U128
		under     bool
	}{
		{U128{0, top}, U128{0, 1}, U128{1, 0}, false, U128{0, top - 1}, false},
		{most, U128{0, 1}, U128{}, true, U128{top, top - 1}, false},
		{most, U128{}, most, false, most, false},
		{U128{}, most, most, false, U128{0, 1}, true},
		{U128{}, U128{0, 1}, U128{0, 1}, false, most, true},
		{U128{1, 0}, U128{0, 1}, U128{1, 1}, false, U128{0, top}, false},
		{most, most, U128{top, top - 1}, true, U128{}, false},
		{U128{1 << 63, 0}, U128{1 << 63, 0}, U128{}, true, U128{}, false},
	} {
		if got, over := Add(c.a, c.b); got != c.sum || over != c.over {
			t.Errorf("Add(%v, %v): %v, %v", c.a, c.b, got, over)
		}
		if got, under := Sub(c.a, c.b); got != c.less || under != c.under {
			t.Errorf("Sub(%v, %v): %v, %v", c.a, c.b, got, under)
		}
	}
}

func TestProducts(t *testing.T) { // P1.1
	for _, a := range samples() {
		for _, b := range samples() {
			p := new(big.Int).Mul(toBig(a), toBig(b))
			if got := Mul(a, b); got != fromBig(p) {
				t.Errorf("Mul(%v, %v): %v", a, b, got)
			}
			p.Mul(toBig(Of(a.Lo)), toBig(Of(b.Lo)))
			if got := Full(a.Lo, b.Lo); got != fromBig(p) {
				t.Errorf("Full(%d, %d): %v", a.Lo, b.Lo, got)
			}
		}
	}
	if got := Full(top, top); got != (U128{top - 1, 1}) {
		t.Errorf("Full of the greatest words: %v", got)
	}
	if got := Mul(most, most); got != (U128{0, 1}) {
		t.Errorf("Mul of the greatest numbers: %v", got)
	}
}

func TestShifts(t *testing.T) { // P1.2
	for _, a := range samples() {
		for _, n := range shifts() {
			by := uint(min(max(n, 0), 128))
			if got, want := Left(a, n), fromBig(new(big.Int).Lsh(toBig(a), by)); got != want {
				t.Errorf("Left(%v, %d): %v, not %v", a, n, got, want)
			}
			if got, want := Right(a, n), fromBig(new(big.Int).Rsh(toBig(a), by)); got != want {
				t.Errorf("Right(%v, %d): %v, not %v", a, n, got, want)
			}
		}
	}
}

func TestShiftsBeyond(t *testing.T) { // P1.2
	for _, n := range []int{math.MinInt, -64, -1, 0} {
		if Left(most, n) != most || Right(most, n) != most {
			t.Errorf("by %d: %v, %v", n, Left(most, n), Right(most, n))
		}
	}
	for _, n := range []int{128, 129, 192, math.MaxInt} {
		if Left(most, n) != (U128{}) || Right(most, n) != (U128{}) {
			t.Errorf("by %d: %v, %v", n, Left(most, n), Right(most, n))
		}
	}
	if Left(most, 127) != (U128{1 << 63, 0}) || Right(most, 127) != (U128{0, 1}) {
		t.Errorf("by 127: %v, %v", Left(most, 127), Right(most, 127))
	}
}

func TestLenAndBit(t *testing.T) { // P1.2
	for _, a := range samples() {
		if got, want := Len(a), toBig(a).BitLen(); got != want {
			t.Errorf("Len(%v): %d, not %d", a, got, want)
		}
		for i := range 128 {
			if got, want := Bit(a, i), int(toBig(a).Bit(i)); got != want {
				t.Errorf("Bit(%v, %d): %d, not %d", a, i, got, want)
			}
		}
	}
	if Len(U128{}) != 0 || Len(most) != 128 || Len(U128{1, 0}) != 65 || Len(U128{0, top}) != 64 {
		t.Error("Len at the edges")
	}
	for _, i := range []int{math.MinInt, -64, -1, 128, 129, 192, math.MaxInt} {
		if got := Bit(most, i); got != 0 {
			t.Errorf("Bit of the greatest number, %d: %d", i, got)
		}
	}
}

func TestPut(t *testing.T) { // P1.3
	a := U128{0x1817161514131211, 0x0807060504030201}
	want := []byte{1, 2, 3, 4, 5, 6, 7, 8, 0x11, 0x12, 0x13, 0x14, 0x15, 0x16, 0x17, 0x18}
	if got := Put(a); !bytes.Equal(got, want) {
		t.Errorf("Put: %v", got)
	}
	if got := Put(U128{}); !bytes.Equal(got, make([]byte, 16)) {
		t.Errorf("Put of 0: %v", got)
	}
	if got := Put(most); !bytes.Equal(got, bytes.Repeat([]byte{255}, 16)) {
		t.Errorf("Put of the greatest number: %v", got)
	}
	Put(a)[0] = 99
	if got := Put(a); !bytes.Equal(got, want) {
		t.Errorf("Put shares its bytes: %v", got)
	}
}

func TestTake(t *testing.T) { // P1.3
	b := []byte{1, 2, 3, 4, 5, 6, 7, 8, 0x11, 0x12, 0x13, 0x14, 0x15, 0x16, 0x17, 0x18}
	kept := bytes.Clone(b)
	if got, err := Take(b); got != (U128{0x1817161514131211, 0x0807060504030201}) || err != api.OK {
		t.Errorf("Take: %v, %v", got, err)
	}
	if !bytes.Equal(b, kept) {
		t.Errorf("Take changed its argument: %v", b)
	}
	if got, err := Take(nil); got != (U128{}) || err != api.ErrForm {
		t.Errorf("Take of none: %v, %v", got, err)
	}
	for _, n := range []int{0, 1, 8, 15, 17, 32} {
		if got, err := Take(bytes.Repeat([]byte{7}, n)); got != (U128{}) || err != api.ErrForm {
			t.Errorf("Take of %d bytes: %v, %v", n, got, err)
		}
	}
}

func TestPrint(t *testing.T) { // P1.3
	for _, a := range samples() {
		if got, want := Print(a), toBig(a).String(); got != want {
			t.Errorf("Print(%v): %s, not %s", a, got, want)
		}
	}
	for _, c := range []struct {
		a    U128
		want string
	}{
		{U128{}, "0"},
		{U128{0, 100}, "100"},
		{U128{1, 0}, "18446744073709551616"},
		{most, "340282366920938463463374607431768211455"},
	} {
		if got := Print(c.a); got != c.want {
			t.Errorf("Print(%v): %s, not %s", c.a, got, c.want)
		}
	}
	ten := Of(1)
	for want := "1"; len(want) <= 39; want += "0" {
		if got := Print(ten); got != want {
			t.Errorf("Print of a power of ten: %s, not %s", got, want)
		}
		ten = Mul(ten, Of(10))
	}
}

func TestTurnedAbout(t *testing.T) { // P1.4
	for _, a := range samples() {
		for _, b := range samples() {
			ab, over := Add(a, b)
			ba, same := Add(b, a)
			if ab != ba || over != same || Mul(a, b) != Mul(b, a) || Full(a.Lo, b.Lo) != Full(b.Lo, a.Lo) {
				t.Errorf("%v and %v can't be turned about", a, b)
			}
			if Cmp(a, b) != -Cmp(b, a) {
				t.Errorf("%v and %v are compared otherwise when turned about", a, b)
			}
		}
	}
}

func TestProductsPart(t *testing.T) { // P1.4
	l := samples()
	for i, a := range l {
		for j, b := range l {
			c := l[(i*7+j*3)%len(l)]
			if Mul(a, sum(b, c)) != sum(Mul(a, b), Mul(a, c)) {
				t.Errorf("%v times the sum of %v and %v", a, b, c)
			}
		}
	}
}

func TestDifferencesComeBack(t *testing.T) { // P1.4
	for _, a := range samples() {
		for _, b := range samples() {
			d, under := Sub(a, b)
			if back, over := Add(d, b); back != a || over != under {
				t.Errorf("%v less %v, and %v: %v, %v", a, b, b, back, over)
			}
			if back, under := Sub(sum(a, b), b); back != a || under != (Cmp(sum(a, b), b) < 0) {
				t.Errorf("%v and %v, less %v: %v, %v", a, b, b, back, under)
			}
		}
	}
}

func TestShiftsAreProductsAndParts(t *testing.T) { // P1.4
	for _, a := range samples() {
		power := Of(1)
		for n := range 128 {
			if Left(a, n) != Mul(a, power) {
				t.Errorf("Left(%v, %d) isn't the product", a, n)
			}
			part := Right(a, n)
			rest, under := Sub(a, Mul(part, power))
			if under || Cmp(rest, power) >= 0 {
				t.Errorf("Right(%v, %d) isn't the part", a, n)
			}
			power = sum(power, power)
		}
	}
}

func TestBytesComeBack(t *testing.T) { // P1.4
	for _, a := range samples() {
		if got, err := Take(Put(a)); got != a || err != api.OK {
			t.Errorf("Take of Put of %v: %v, %v", a, got, err)
		}
	}
	b := []byte{200, 1, 0, 9, 255, 3, 128, 7, 6, 5, 4, 3, 2, 1, 0, 90}
	a, _ := Take(b)
	if got := Put(a); !bytes.Equal(got, b) {
		t.Errorf("Put of Take: %v", got)
	}
}
