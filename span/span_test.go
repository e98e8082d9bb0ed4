package span

import (
	"math"
	"math/big"
	"math/rand/v2"
	"slices"
	"testing"

	"knucklebone/api"
	"knucklebone/wide"
)

const top = math.MaxUint64

// most is 2^128 - 1.
var most = wide.U128{Hi: top, Lo: top}

// plus tells a number and another one.
func plus(n wide.U128, by uint64) wide.U128 {
	n, _ = wide.Add(n, wide.Of(by))
	return n
}

// less tells a number less another.
func less(n wide.U128, by uint64) wide.U128 {
	n, _ = wide.Sub(n, wide.Of(by))
	return n
}

// numbers tells numbers at edges, round about powers of 2, whose halves go ahead of each other both ways, and random ones.
func numbers() []wide.U128 {
	l := []wide.U128{{}, most, {Hi: top}, {Lo: top}, {Hi: 1, Lo: 9}, {Hi: 9, Lo: 1}, {Hi: 1, Lo: 1}, {Hi: 9, Lo: 9}, wide.Of(3), wide.Of(6), wide.Of(8)}
	for _, i := range []int{0, 1, 2, 31, 32, 62, 63, 64, 65, 126, 127} {
		n := wide.Left(wide.Of(1), i)
		l = append(l, n, plus(n, 1), less(n, 1), less(most, n.Lo))
	}
	r := rand.New(rand.NewPCG(15, 16))
	for range 12 {
		l = append(l, wide.U128{Hi: r.Uint64(), Lo: r.Uint64()}, wide.Of(r.Uint64()))
	}
	slices.SortFunc(l, wide.Cmp)
	return slices.Compact(l)
}

// spans tells the spans from each number to each other one: those that may be, and those that may not.
func spans() []Span {
	l := []Span{}
	for _, from := range numbers() {
		for _, to := range numbers() {
			l = append(l, Span{from, to})
		}
	}
	return l
}

// bases tells numbers from which on a few places are looked at one by one: at 0, across the lower 64 bits' end, in the middle, and up to the greatest one.
func bases() []wide.U128 {
	return []wide.U128{{}, {Lo: top - 1}, {Hi: 1<<63 - 1, Lo: top - 2}, less(most, few)}
}

// few is how many places are looked at one by one.
const few = 4

// small tells all spans from a base on up to few beyond it, both ways round.
func small(base wide.U128) []Span {
	l := []Span{}
	for from := range uint64(few + 1) {
		for to := range uint64(few + 1) {
			l = append(l, Span{plus(base, from), plus(base, to)})
		}
	}
	return l
}

// lists tells all lists of up to three spans.
func lists(row []Span) [][]Span {
	l := [][]Span{nil, {}}
	for _, s := range row {
		l = append(l, []Span{s})
		for _, t := range row {
			l = append(l, []Span{s, t})
			for _, u := range row {
				l = append(l, []Span{s, t, u})
			}
		}
	}
	return l
}

// number tells a number as one of the library's.
func number(n wide.U128) *big.Int {
	hi := new(big.Int).SetUint64(n.Hi)
	return hi.Lsh(hi, 64).Add(hi, new(big.Int).SetUint64(n.Lo))
}

// same tells whether a number is one of the library's.
func same(n wide.U128, b *big.Int) bool { return number(n).Cmp(b) == 0 }

// mayBe tells whether a span may be, by the chapter's words.
func mayBe(s Span) bool { return number(s.From).Cmp(number(s.To)) <= 0 }

// length tells To less From; 0 of a span that may not be.
func length(s Span) *big.Int {
	if !mayBe(s) {
		return new(big.Int)
	}
	return new(big.Int).Sub(number(s.To), number(s.From))
}

// had tells whether a span has a place, by the chapter's words.
func had(s Span, n wide.U128) bool {
	return number(s.From).Cmp(number(n)) <= 0 && number(n).Cmp(number(s.To)) < 0
}

// in tells the places of a base that a span has, one by one.
func in(s Span, base wide.U128) []uint64 {
	l := []uint64{}
	for i := range uint64(few) {
		if had(s, plus(base, i)) {
			l = append(l, i)
		}
	}
	return l
}

func TestRight(t *testing.T) { // P15.1: whether From isn't above To
	for _, s := range spans() {
		if got := Right(s); got != mayBe(s) {
			t.Errorf("Right(%x): %t", s, got)
		}
	}
}

// sample is a span, whether it may be, and its length.
type sample struct {
	s     Span
	right bool
	n     wide.U128
}

// samples tells spans that are written out: whose From and To differ in the upper 64 bits alone, in the lower ones alone, and in both the other way round.
func samples() []sample {
	return []sample{
		{Span{}, true, wide.Of(0)},
		{Span{wide.Of(3), wide.Of(8)}, true, wide.Of(5)},
		{Span{wide.Of(8), wide.Of(3)}, false, wide.Of(0)},
		{Span{wide.Of(8), wide.Of(8)}, true, wide.Of(0)},
		{Span{wide.Of(8), wide.Of(9)}, true, wide.Of(1)},
		{Span{wide.Of(0), most}, true, most},
		{Span{most, wide.Of(0)}, false, wide.Of(0)},
		{Span{most, most}, true, wide.Of(0)},
		{Span{less(most, 1), most}, true, wide.Of(1)},
		{Span{most, less(most, 1)}, false, wide.Of(0)},
		{Span{wide.U128{Hi: 2, Lo: 7}, wide.U128{Hi: 5, Lo: 7}}, true, wide.U128{Hi: 3}},
		{Span{wide.U128{Hi: 5, Lo: 7}, wide.U128{Hi: 2, Lo: 7}}, false, wide.Of(0)},
		{Span{wide.U128{Hi: 5, Lo: 2}, wide.U128{Hi: 5, Lo: 7}}, true, wide.Of(5)},
		{Span{wide.U128{Hi: 5, Lo: 7}, wide.U128{Hi: 5, Lo: 2}}, false, wide.Of(0)},
		{Span{wide.U128{Hi: 1, Lo: 9}, wide.U128{Hi: 9, Lo: 1}}, true, wide.U128{Hi: 7, Lo: top - 7}},
		{Span{wide.U128{Hi: 9, Lo: 1}, wide.U128{Hi: 1, Lo: 9}}, false, wide.Of(0)},
		{Span{wide.Of(top), wide.U128{Hi: 1}}, true, wide.Of(1)},
		{Span{wide.U128{Hi: 1}, wide.Of(top)}, false, wide.Of(0)},
	}
}

func TestSamples(t *testing.T) { // P15.1: spans that are written out
	for _, x := range samples() {
		if Right(x.s) != x.right || Len(x.s) != x.n {
			t.Errorf("of %x: Right %t, Len %x", x.s, Right(x.s), Len(x.s))
		}
	}
}

func TestLen(t *testing.T) { // P15.1: To less From; 0 of one that may not be
	for _, s := range spans() {
		if got := Len(s); !same(got, length(s)) {
			t.Errorf("Len(%x): %x", s, got)
		}
	}
}

func TestHas(t *testing.T) { // P15.1: From on, without To; nothing of one that may not be
	all := numbers()
	for i, s := range spans() {
		near := []wide.U128{s.From, plus(s.From, 1), less(s.From, 1), s.To, plus(s.To, 1), less(s.To, 1), {}, most, {Hi: s.From.Hi, Lo: s.To.Lo}, {Hi: s.To.Hi, Lo: s.From.Lo}}
		for _, n := range append(near, all[i%len(all)], all[i*7%len(all)]) {
			if got := Has(s, n); got != had(s, n) {
				t.Errorf("Has(%x, %x): %t", s, n, got)
			}
		}
	}
}

func TestHasEdges(t *testing.T) { // P15.1: From, the place before it, the last one, To
	for _, base := range []wide.U128{wide.Of(1), {Lo: top}, {Hi: 1}, less(most, 9)} {
		s := Span{base, plus(base, 5)}
		got := []bool{Has(s, less(s.From, 1)), Has(s, s.From), Has(s, less(s.To, 1)), Has(s, s.To)}
		if !slices.Equal(got, []bool{false, true, true, false}) {
			t.Errorf("of %x: %t", s, got)
		}
		wrong := Span{s.To, s.From}
		for n := range uint64(7) {
			if Has(wrong, plus(less(base, 1), n)) || Has(Span{base, base}, plus(less(base, 1), n)) {
				t.Errorf("places are had round about %x", base)
			}
		}
	}
	if all := (Span{wide.Of(0), most}); !Has(all, wide.Of(0)) || !Has(all, less(most, 1)) || Has(all, most) {
		t.Errorf("of the greatest span")
	}
}

func TestMeetPlaces(t *testing.T) { // P15.1: whether there is a place that both have, place by place
	for _, base := range bases() {
		for _, s := range small(base) {
			for _, u := range small(base) {
				want := false
				for _, i := range in(s, base) {
					want = want || slices.Contains(in(u, base), i)
				}
				if got := Meet(s, u); got != want {
					t.Errorf("Meet(%x, %x): %t", s, u, got)
				}
			}
		}
	}
}

func TestMeetFar(t *testing.T) { // P15.1: spans of all lengths; if they meet, both have one of their From
	row := spans()
	for i := 0; i < len(row); i += 3 {
		s := row[i]
		for j := i % 7; j < len(row); j += 7 {
			u := row[j]
			want := had(s, s.From) && had(u, s.From) || had(s, u.From) && had(u, u.From)
			if Meet(s, u) != want || Meet(u, s) != want {
				t.Fatalf("Meet of %x and %x isn't %t", s, u, want)
			}
		}
	}
}

func TestMeetWritten(t *testing.T) { // P15.1: touching, at one place, within, itself, none within, that may not be
	at := func(base wide.U128, from, to uint64) Span { return Span{plus(base, from), plus(base, to)} }
	for _, base := range []wide.U128{{}, {Lo: top - 4}, {Hi: top, Lo: top - 20}} {
		for _, x := range []struct {
			s, t Span
			want bool
		}{
			{at(base, 3, 6), at(base, 6, 8), false},
			{at(base, 3, 7), at(base, 6, 8), true},
			{at(base, 0, 20), at(base, 6, 8), true},
			{at(base, 0, 20), at(base, 0, 1), true},
			{at(base, 0, 20), at(base, 19, 20), true},
			{at(base, 3, 8), at(base, 3, 8), true},
			{at(base, 3, 3), at(base, 3, 3), false},
			{at(base, 5, 5), at(base, 3, 8), false},
			{at(base, 3, 3), at(base, 3, 8), false},
			{at(base, 8, 8), at(base, 3, 8), false},
			{at(base, 8, 3), at(base, 3, 8), false},
			{at(base, 8, 3), at(base, 0, 20), false},
			{at(base, 8, 3), at(base, 5, 6), false},
			{at(base, 8, 3), at(base, 8, 3), false},
			{at(base, 0, 1), at(base, 19, 20), false},
		} {
			if Meet(x.s, x.t) != x.want || Meet(x.t, x.s) != x.want {
				t.Errorf("Meet of %x and %x isn't %t", x.s, x.t, x.want)
			}
		}
	}
}

func TestHalves(t *testing.T) { // P15.2: each half's edges, the first one longer by 1 where the length is odd
	for _, s := range spans() {
		a, b, err := Halves(s)
		n := length(s)
		want := api.OK
		switch {
		case !mayBe(s):
			want = api.ErrArg
		case n.Cmp(big.NewInt(2)) < 0:
			want = api.ErrShort
		}
		if err != want {
			t.Errorf("Halves(%x): %v", s, err)
		}
		if want != api.OK {
			if a != (Span{}) || b != (Span{}) {
				t.Errorf("Halves(%x): %x, %x beside %v", s, a, b, err)
			}
			continue
		}
		up := new(big.Int).Add(n, big.NewInt(1))
		up.Rsh(up, 1)
		down := new(big.Int).Rsh(n, 1)
		if a.From != s.From || a.To != b.From || b.To != s.To || length(a).Cmp(up) != 0 || length(b).Cmp(down) != 0 {
			t.Errorf("Halves(%x): %x, %x", s, a, b)
		}
	}
}

func TestHalvesWritten(t *testing.T) { // P15.2: the example; short lengths; the greatest one
	at := func(from, to uint64) Span { return Span{wide.Of(from), wide.Of(to)} }
	middle := wide.U128{Hi: 1 << 63}
	for _, x := range []struct {
		s, a, b Span
		err     api.Errno
	}{
		{at(3, 8), at(3, 6), at(6, 8), api.OK},
		{at(3, 7), at(3, 5), at(5, 7), api.OK},
		{at(0, 2), at(0, 1), at(1, 2), api.OK},
		{at(0, 3), at(0, 2), at(2, 3), api.OK},
		{at(7, 9), at(7, 8), at(8, 9), api.OK},
		{at(7, 10), at(7, 9), at(9, 10), api.OK},
		{at(0, 0), Span{}, Span{}, api.ErrShort},
		{at(0, 1), Span{}, Span{}, api.ErrShort},
		{at(7, 7), Span{}, Span{}, api.ErrShort},
		{at(7, 8), Span{}, Span{}, api.ErrShort},
		{Span{most, most}, Span{}, Span{}, api.ErrShort},
		{Span{less(most, 1), most}, Span{}, Span{}, api.ErrShort},
		{Span{less(most, 2), most}, Span{less(most, 2), less(most, 1)}, Span{less(most, 1), most}, api.OK},
		{at(8, 7), Span{}, Span{}, api.ErrArg},
		{at(8, 3), Span{}, Span{}, api.ErrArg},
		{Span{most, wide.Of(0)}, Span{}, Span{}, api.ErrArg},
		{Span{wide.Of(0), most}, Span{wide.Of(0), middle}, Span{middle, most}, api.OK},
		{Span{wide.Of(1), most}, Span{wide.Of(1), middle}, Span{middle, most}, api.OK},
		{Span{wide.Of(0), middle}, Span{wide.Of(0), wide.U128{Hi: 1 << 62}}, Span{wide.U128{Hi: 1 << 62}, middle}, api.OK},
	} {
		if a, b, err := Halves(x.s); a != x.a || b != x.b || err != x.err {
			t.Errorf("Halves(%x): %x, %x, %v", x.s, a, b, err)
		}
	}
}

// counts tells numbers of places to take of a span: round about none and all, and others.
func counts(s Span, i int) []wide.U128 {
	all, _ := wide.Sub(s.To, s.From)
	others := numbers()
	return []wide.U128{{}, wide.Of(1), wide.Of(2), wide.Right(all, 1), all, less(all, 1), plus(all, 1), {Lo: all.Lo}, {Hi: all.Hi}, most, less(most, 1), others[i%len(others)], s.From, s.To}
}

func TestTake(t *testing.T) { // P15.2: none, some, all, one more, the greatest number; of one that may not be
	for i, s := range spans() {
		for _, n := range counts(s, i) {
			a, b, err := Take(s, n)
			want := api.OK
			switch {
			case !mayBe(s):
				want = api.ErrArg
			case length(s).Cmp(number(n)) < 0:
				want = api.ErrExhausted
			}
			if err != want {
				t.Errorf("Take(%x, %x): %v", s, n, err)
			}
			if want != api.OK && (a != Span{} || b != Span{}) {
				t.Errorf("Take(%x, %x): %x, %x beside %v", s, n, a, b, err)
			}
			if want == api.OK && (a.From != s.From || a.To != b.From || b.To != s.To || !same(n, length(a)) || !mayBe(b)) {
				t.Errorf("Take(%x, %x): %x, %x", s, n, a, b)
			}
		}
	}
}

func TestTakeWritten(t *testing.T) { // P15.2: taken parts that are written out
	at := func(from, to uint64) Span { return Span{wide.Of(from), wide.Of(to)} }
	for _, x := range []struct {
		s    Span
		n    wide.U128
		a, b Span
		err  api.Errno
	}{
		{at(3, 8), wide.Of(0), at(3, 3), at(3, 8), api.OK},
		{at(3, 8), wide.Of(2), at(3, 5), at(5, 8), api.OK},
		{at(3, 8), wide.Of(5), at(3, 8), at(8, 8), api.OK},
		{at(3, 8), wide.Of(6), Span{}, Span{}, api.ErrExhausted},
		{at(3, 8), wide.U128{Hi: 1}, Span{}, Span{}, api.ErrExhausted},
		{at(3, 8), most, Span{}, Span{}, api.ErrExhausted},
		{at(3, 3), wide.Of(0), at(3, 3), at(3, 3), api.OK},
		{at(3, 3), wide.Of(1), Span{}, Span{}, api.ErrExhausted},
		{at(8, 3), wide.Of(0), Span{}, Span{}, api.ErrArg},
		{at(8, 3), wide.Of(2), Span{}, Span{}, api.ErrArg},
		{at(8, 3), most, Span{}, Span{}, api.ErrArg},
		{Span{wide.Of(0), most}, most, Span{wide.Of(0), most}, Span{most, most}, api.OK},
		{Span{wide.Of(1), most}, most, Span{}, Span{}, api.ErrExhausted},
		{Span{wide.Of(1), most}, less(most, 1), Span{wide.Of(1), most}, Span{most, most}, api.OK},
		{Span{most, most}, wide.Of(1), Span{}, Span{}, api.ErrExhausted},
		{Span{less(most, 3), most}, wide.Of(4), Span{}, Span{}, api.ErrExhausted},
		{Span{wide.Of(top), wide.U128{Hi: 1, Lo: 5}}, wide.Of(1), Span{wide.Of(top), wide.U128{Hi: 1}}, Span{wide.U128{Hi: 1}, wide.U128{Hi: 1, Lo: 5}}, api.OK},
	} {
		if a, b, err := Take(x.s, x.n); a != x.a || b != x.b || err != x.err {
			t.Errorf("Take(%x, %x): %x, %x, %v", x.s, x.n, a, b, err)
		}
	}
}

// apart tells by the chapter's words, two by two and place by place, whether the spans of a list are.
func apart(l []Span, base wide.U128) bool {
	taken := [few]bool{}
	for _, s := range l {
		if !mayBe(s) {
			return false
		}
		for _, i := range in(s, base) {
			if taken[i] {
				return false
			}
			taken[i] = true
		}
	}
	return true
}

// covered tells how many places of a base are had.
func covered(l []Span, base wide.U128) int {
	taken := map[uint64]bool{}
	for _, s := range l {
		for _, i := range in(s, base) {
			taken[i] = true
		}
	}
	return len(taken)
}

// doubles tells those that stand in a list twice or more, by looking for each one in all of it.
func doubles(l []Span) []Span {
	found := []Span{}
	for i, s := range l {
		if !slices.Contains(l[:i], s) && slices.Contains(l[i+1:], s) {
			found = append(found, s)
		}
	}
	return found
}

func TestListsPlaces(t *testing.T) { // P15.3: all lists of up to three small spans, in any order, place by place
	for _, base := range bases() {
		for _, l := range lists(small(base)) {
			if got := Apart(l); got != apart(l, base) {
				t.Errorf("Apart(%x): %t", l, got)
			}
			if got := Cover(l); got != wide.Of(uint64(covered(l, base))) {
				t.Errorf("Cover(%x): %x", l, got)
			}
			if got := Twice(l); !slices.Equal(got, doubles(l)) {
				t.Errorf("Twice(%x): %x", l, got)
			}
		}
	}
}

func TestLongerLists(t *testing.T) { // P15.3: random lists of up to twelve, of few spans and of many
	r := rand.New(rand.NewPCG(17, 18))
	for i := range 4000 {
		base := bases()[i%len(bases())]
		row := small(base)
		if i%3 > 0 {
			row = slices.DeleteFunc(row, func(s Span) bool { return !mayBe(s) })
		}
		if i%3 > 1 {
			row = slices.DeleteFunc(row, func(s Span) bool { return length(s).Cmp(big.NewInt(1)) > 0 })
		}
		l := make([]Span, r.IntN(13))
		for j := range l {
			l[j] = row[r.IntN(len(row))]
		}
		if Apart(l) != apart(l, base) || Cover(l) != wide.Of(uint64(covered(l, base))) || !slices.Equal(Twice(l), doubles(l)) {
			t.Errorf("of %x: Apart %t, Cover %x, Twice %x", l, Apart(l), Cover(l), Twice(l))
		}
	}
}

// edges tells the numbers of a list's spans, in order, each once.
func edges(l []Span) []wide.U128 {
	all := []wide.U128{}
	for _, s := range l {
		all = append(all, s.From, s.To)
	}
	slices.SortFunc(all, func(a, b wide.U128) int { return number(a).Cmp(number(b)) })
	return slices.Compact(all)
}

// coveredFar tells how many places are had: between two edges that follow each other all are had, or none.
func coveredFar(l []Span) *big.Int {
	sum := new(big.Int)
	row := edges(l)
	for i := 1; i < len(row); i++ {
		for _, s := range l {
			if had(s, row[i-1]) {
				sum.Add(sum, length(Span{row[i-1], row[i]}))
				break
			}
		}
	}
	return sum
}

// apartFar tells whether all may be and no two have a place in common, two by two.
func apartFar(l []Span) bool {
	for i, s := range l {
		if !mayBe(s) {
			return false
		}
		for _, u := range l[:i] {
			if had(s, s.From) && had(u, s.From) || had(s, u.From) && had(u, u.From) {
				return false
			}
		}
	}
	return true
}

// farLists tells random lists of spans of all lengths; some of them are parts of one way round that was cut, and are apart.
func farLists() [][]Span {
	r := rand.New(rand.NewPCG(19, 20))
	all, row := [][]Span{}, numbers()
	for i := range 3000 {
		l := []Span{}
		cuts := slices.Clone(row)
		r.Shuffle(len(cuts), func(i, j int) { cuts[i], cuts[j] = cuts[j], cuts[i] })
		cuts = cuts[:r.IntN(14)]
		if i%2 == 0 {
			slices.SortFunc(cuts, wide.Cmp)
		}
		for j := 1; j < len(cuts); j++ {
			l = append(l, Span{cuts[j-1], cuts[j]})
		}
		if i%4 == 0 && len(cuts) > 0 {
			l = append(l, Span{cuts[0], cuts[0]}, Span{cuts[0], cuts[0]}, Span{cuts[len(cuts)/2], cuts[len(cuts)/2]})
		}
		if i%8 == 7 {
			l = append(l, l...)
		}
		r.Shuffle(len(l), func(i, j int) { l[i], l[j] = l[j], l[i] })
		all = append(all, l)
	}
	return all
}

func TestFarLists(t *testing.T) { // P15.3: spans of all lengths, up to the greatest number
	found := 0
	for _, l := range farLists() {
		want := apartFar(l)
		if want && len(l) > 1 {
			found++
		}
		if got := Apart(l); got != want {
			t.Errorf("Apart(%x): %t", l, got)
		}
		if got := Cover(l); !same(got, coveredFar(l)) {
			t.Errorf("Cover(%x): %x", l, got)
		}
		if got := Twice(l); !slices.Equal(got, doubles(l)) {
			t.Errorf("Twice(%x): %x", l, got)
		}
	}
	if found < 1000 {
		t.Errorf("only %d lists are apart", found)
	}
}

func TestListsWritten(t *testing.T) { // P15.3: lists that are written out
	at := func(from, to uint64) Span { return Span{wide.Of(from), wide.Of(to)} }
	whole, wrong := Span{wide.Of(0), most}, Span{most, wide.Of(0)}
	for _, x := range []struct {
		l     []Span
		apart bool
		twice []Span
		cover wide.U128
	}{
		{nil, true, nil, wide.Of(0)},
		{[]Span{}, true, nil, wide.Of(0)},
		{[]Span{at(3, 8)}, true, nil, wide.Of(5)},
		{[]Span{at(3, 3)}, true, nil, wide.Of(0)},
		{[]Span{at(8, 3)}, false, nil, wide.Of(0)},
		{[]Span{whole}, true, nil, most},
		{[]Span{wrong}, false, nil, wide.Of(0)},
		{[]Span{whole, wrong}, false, nil, most},
		{[]Span{whole, whole}, false, []Span{whole}, most},
		{[]Span{wrong, wrong}, false, []Span{wrong}, wide.Of(0)},
		{[]Span{at(6, 8), at(3, 6)}, true, nil, wide.Of(5)},
		{[]Span{at(3, 8), at(3, 8)}, false, []Span{at(3, 8)}, wide.Of(5)},
		{[]Span{at(5, 5), at(5, 5)}, true, []Span{at(5, 5)}, wide.Of(0)},
		{[]Span{at(5, 5), at(3, 8), at(5, 5)}, true, []Span{at(5, 5)}, wide.Of(5)},
		{[]Span{at(3, 8), at(5, 6)}, false, nil, wide.Of(5)},
		{[]Span{at(3, 8), at(3, 4)}, false, nil, wide.Of(5)},
		{[]Span{at(0, 20), at(3, 8), at(9, 10)}, false, nil, wide.Of(20)},
		{[]Span{at(0, 20), at(3, 8), at(19, 21)}, false, nil, wide.Of(21)},
		{[]Span{at(9, 7), at(3, 8), at(20, 22)}, false, nil, wide.Of(7)},
		{[]Span{at(1, 2), at(3, 4), at(5, 6), at(3, 4), at(1, 2), at(3, 4)}, false, []Span{at(1, 2), at(3, 4)}, wide.Of(3)},
		{[]Span{at(5, 6), at(1, 2), at(3, 4), at(3, 4), at(1, 2), at(7, 7), at(9, 8), at(7, 7), at(9, 8), at(8, 9)}, false, []Span{at(1, 2), at(3, 4), at(7, 7), at(9, 8)}, wide.Of(4)},
		{[]Span{{wide.U128{Hi: 1}, wide.U128{Hi: 2}}, at(0, top)}, true, nil, wide.U128{Hi: 1, Lo: top}},
		{[]Span{{wide.U128{Hi: 1, Lo: 7}, wide.U128{Hi: 5, Lo: 7}}, {wide.U128{Hi: 3, Lo: 7}, wide.U128{Hi: 9, Lo: 7}}}, false, nil, wide.U128{Hi: 8}},
		{[]Span{{wide.U128{Hi: 1, Lo: 9}, wide.U128{Hi: 9, Lo: 1}}, {wide.U128{Hi: 9, Lo: 1}, wide.U128{Hi: 9, Lo: 9}}}, true, nil, wide.U128{Hi: 8}},
		{[]Span{{wide.U128{Hi: 9, Lo: 1}, wide.U128{Hi: 9, Lo: 9}}, {wide.U128{Hi: 1, Lo: 9}, wide.U128{Hi: 9, Lo: 2}}}, false, nil, wide.U128{Hi: 8}},
		{[]Span{{wide.U128{Hi: 1}, most}, {wide.Of(0), wide.U128{Hi: 1}}}, true, nil, most},
		{[]Span{{wide.U128{Hi: 1}, most}, {wide.Of(0), wide.U128{Hi: 1, Lo: 1}}}, false, nil, most},
	} {
		if Apart(x.l) != x.apart || !slices.Equal(Twice(x.l), x.twice) || Cover(x.l) != x.cover {
			t.Errorf("of %x: Apart %t, Twice %x, Cover %x", x.l, Apart(x.l), Twice(x.l), Cover(x.l))
		}
	}
}

func TestLongLists(t *testing.T) { // P15.3: R1: lists so long that no two by two would end soon
	const many = 200000
	l := make([]Span, many)
	for i := range l {
		from := uint64(i) * 5
		l[i] = Span{wide.U128{Hi: 1 << 62, Lo: from}, wide.U128{Hi: 1 << 62, Lo: from + 3}}
	}
	r := rand.New(rand.NewPCG(21, 22))
	r.Shuffle(many, func(i, j int) { l[i], l[j] = l[j], l[i] })
	if !Apart(l) || Cover(l) != wide.Of(3*many) || len(Twice(l)) != 0 {
		t.Errorf("not apart: Cover %x, %d twice", Cover(l), len(Twice(l)))
	}
	both := append(slices.Clone(l), l...)
	if Apart(both) || Cover(both) != wide.Of(3*many) || !slices.Equal(Twice(both), l) {
		t.Errorf("twice: Cover %x, %d twice", Cover(both), len(Twice(both)))
	}
}

func TestPartsTogether(t *testing.T) { // P15.4: halves and parts are apart, and have together what was
	check := func(s, a, b Span) {
		t.Helper()
		sum, over := wide.Add(Len(a), Len(b))
		if !Apart([]Span{b, a}) || Meet(a, b) || Cover([]Span{a, b}) != Len(s) || sum != Len(s) || over {
			t.Errorf("%x and %x aren't together %x", a, b, s)
		}
		for _, n := range append(numbers(), s.From, less(a.To, 1), a.To, less(s.To, 1), s.To) {
			if Has(s, n) != (Has(a, n) || Has(b, n)) {
				t.Errorf("of %x: %x is had by not both it and its parts", s, n)
			}
		}
	}
	for i, s := range spans() {
		if a, b, err := Halves(s); err == api.OK {
			check(s, a, b)
		}
		n := counts(s, i)[i%14]
		if a, b, err := Take(s, n); err == api.OK {
			check(s, a, b)
		}
	}
}

func TestApartByCover(t *testing.T) { // P15.4: apart are the lists of spans that may be of which Cover is the sum of lengths
	all := farLists()
	for _, base := range bases() {
		all = append(all, lists(small(base))...)
	}
	for _, l := range all {
		right, over, sum := true, false, wide.U128{}
		for _, s := range l {
			more := false
			sum, more = wide.Add(sum, Len(s))
			over = over || more
			right = right && Right(s)
		}
		if right && !over && Apart(l) != (Cover(l) == sum) {
			t.Errorf("of %x: Apart %t, Cover %x, the sum of lengths %x", l, Apart(l), Cover(l), sum)
		}
		if !right && Apart(l) {
			t.Errorf("%x are apart", l)
		}
	}
}

func TestSplitOn(t *testing.T) { // P15.4: halves of halves are apart still, and cover what was
	whole := Span{wide.U128{Hi: 1 << 62, Lo: 3}, most}
	l := []Span{whole}
	for i := range 300 {
		at := i * 7 % len(l)
		a, b, err := Halves(l[at])
		if err != api.OK {
			t.Fatalf("Halves(%x): %v", l[at], err)
		}
		l[at] = b
		l = append(l, a)
		if !Apart(l) || Cover(l) != Len(whole) || len(Twice(l)) != 0 {
			t.Fatalf("%d parts aren't together %x", len(l), whole)
		}
	}
}

// answers is all that the package answers, but its list.
type answers struct {
	right, has, meet, apart    bool
	length, cover              wide.U128
	first, second, taken, rest Span
	halved, took               api.Errno
}

// ask tells all answers, and the list of those that stand there twice.
func ask(l []Span, n *wide.U128) (answers, []Span) {
	s, u := l[0], l[1]
	a, b, halved := Halves(s)
	c, d, took := Take(s, *n)
	return answers{Right(s), Has(s, *n), Meet(s, u), Apart(l), Len(s), Cover(l), a, b, c, d, halved, took}, Twice(l)
}

func TestSameCallsSameAnswers(t *testing.T) { // P15.1 to P15.3: R3 to R5; lists stay in their order, and Twice's is one of its own
	for i, few := range farLists()[:600] {
		// Room behind the list, which no call may write to.
		l := append(few, Span{wide.Of(9), wide.Of(4)}, Span{}, Span{wide.Of(9), wide.Of(4)}, Span{})
		room := slices.Clone(l)
		for j := range room {
			room[j] = Span{most, wide.Of(uint64(j))}
		}
		l = append(l, room...)
		kept := slices.Clone(l)
		l = l[:len(l)-len(room)]
		n := numbers()[i%len(numbers())]
		steps := n
		first, twice := ask(l, &steps)
		keptTwice := slices.Clone(twice)
		for j := range twice[:cap(twice)] {
			twice[:cap(twice)][j] = Span{wide.Of(1), wide.Of(77)}
		}
		if !slices.Equal(l[:len(kept)], kept) || steps != n {
			t.Fatalf("an argument was changed: %x is %x", kept, l[:len(kept)])
		}
		other := []Span{{wide.Of(5), wide.Of(7)}, {wide.Of(5), wide.Of(7)}}
		ask(other, &steps)
		again, twiceAgain := ask(l, &steps)
		if again != first || !slices.Equal(twiceAgain, keptTwice) {
			t.Errorf("of %x: %v, %x, then %v, %x", l, first, keptTwice, again, twiceAgain)
		}
	}
}
