package seed

import (
	"math"
	"math/rand/v2"
	"slices"
	"testing"

	"knucklebone/api"
	"knucklebone/gen"
	"knucklebone/half"
	"knucklebone/mix"
	"knucklebone/pcg"
	"knucklebone/philox"
	"knucklebone/wide"
	"knucklebone/xosh"
)

const top = math.MaxUint64

// most is 2^128 - 1, middle is 2^127.
var (
	most   = wide.U128{Hi: top, Lo: top}
	middle = wide.U128{Hi: 1 << 63}
)

// kinds tells all four.
func kinds() []int { return []int{api.Mix, api.Xosh, api.Pcg, api.Philox} }

// noKinds tells numbers that are no kind, some of which have a kind's lowest bits.
func noKinds() []int {
	l := []int{math.MinInt, math.MinInt + 1, -1 << 32, -256, -255, -4, -3, -2, -1, 0, 5, 6, 7, 8, 127, 128, 255, 256, math.MaxInt - 1, math.MaxInt}
	for _, k := range kinds() {
		l = append(l, k+256, k+1<<16, k+1<<32, k-256, k-1<<32, k+math.MinInt)
	}
	return l
}

// seeds tells seeds at edges, round about powers of 2, and random ones.
func seeds() []uint64 {
	const gamma = 0x9E3779B97F4A7C15
	l := []uint64{0, 1, 2, 7, 42, 1234567, 1 << 63, 1<<63 - 1, 1<<63 + 1, top, top - 1, 0x0123456789ABCDEF}
	// Of some of these a word is 0.
	for n := range uint64(6) {
		l = append(l, -n*gamma, n*gamma, 1-n*gamma)
	}
	for i := range 64 {
		l = append(l, 1<<i, 1<<i-1, ^uint64(1<<i))
	}
	r := rand.New(rand.NewPCG(14, 15))
	for range 100 {
		l = append(l, r.Uint64())
	}
	slices.Sort(l)
	return slices.Compact(l)
}

// fewSeeds tells seeds at edges, and each k-th of the others.
func fewSeeds(k int) []uint64 {
	l := []uint64{0, 1, 1 << 63, top}
	for i, s := range seeds() {
		if i%k == 1 && !slices.Contains(l, s) {
			l = append(l, s)
		}
	}
	return l
}

// numbers tells numbers at edges, round about powers of 2, and random ones.
func numbers() []wide.U128 {
	l := []wide.U128{{}, most, {Hi: top}, {Lo: top}}
	for i := range 128 {
		n := wide.Left(wide.Of(1), i)
		more, _ := wide.Add(n, wide.Of(1))
		l = append(l, n, more, less(n, 1))
	}
	r := rand.New(rand.NewPCG(16, 17))
	for range 40 {
		l = append(l, wide.U128{Hi: r.Uint64(), Lo: r.Uint64()}, wide.Of(r.Uint64()), wide.U128{Hi: r.Uint64() >> 1, Lo: r.Uint64()}, wide.Of(r.Uint64()>>1))
	}
	return l
}

// less tells a number less another.
func less(n wide.U128, by uint64) wide.U128 {
	n, _ = wide.Sub(n, wide.Of(by))
	return n
}

// limit tells of how many steps the states of a kind are kept apart, by chapter 13.
func limit(kind int) wide.U128 {
	if kind == api.Mix {
		return wide.Of(1 << 63)
	}
	return middle
}

// below tells numbers of steps below the limit of a kind, at its edges ahead of others.
func below(kind int) []wide.U128 {
	l := []wide.U128{{}, wide.Of(1), less(limit(kind), 1), less(limit(kind), 2)}
	for _, n := range numbers() {
		if wide.Cmp(n, limit(kind)) < 0 && !slices.Contains(l, n) {
			l = append(l, n)
		}
	}
	return l
}

// someBelow tells the numbers at the edges, and each k-th of the others.
func someBelow(kind, k int) []wide.U128 {
	few := []wide.U128{}
	for i, n := range below(kind) {
		if i < 4 || i%k == 0 {
			few = append(few, n)
		}
	}
	return few
}

// beyond tells numbers of steps that aren't below the limit of a kind.
func beyond(kind int) []wide.U128 {
	more, _ := wide.Add(limit(kind), wide.Of(1))
	l := []wide.U128{limit(kind), more, most}
	for _, n := range numbers() {
		if wide.Cmp(n, limit(kind)) >= 0 {
			l = append(l, n)
		}
	}
	return l
}

// split tells SplitMix64's word number i from a seed on, by what is published of it.
func split(seed uint64, i int) uint64 {
	z := seed + uint64(i+1)*0x9E3779B97F4A7C15
	z = (z ^ z>>30) * 0xBF58476D1CE4E5B9
	z = (z ^ z>>27) * 0x94D049BB133111EB
	return z ^ z>>31
}

// made tells the state of a kind, of a seed, by the chapter's words.
func made(kind int, seed uint64) gen.State {
	a, b, c, d := split(seed, 0), split(seed, 1), split(seed, 2), split(seed, 3)
	return []gen.State{
		{Kind: 1, Mix: seed},
		{Kind: 2, Xosh: xosh.State{a, b, c, d}},
		{Kind: 3, Pcg: pcg.State{S: wide.U128{Hi: a, Lo: b}, I: wide.U128{Hi: c, Lo: d | 1}}},
		{Kind: 4, Philox: half.State{K: philox.Key{uint32(a), uint32(a >> 32)}}},
	}[kind-1]
}

// behind tells the state so many steps from a seed's.
func behind(kind int, seed uint64, n wide.U128) gen.State {
	s, _ := gen.Jump(made(kind, seed), n)
	return s
}

// known is a kind, a seed, and its state.
type known struct {
	kind int
	seed uint64
	want gen.State
}

// samples tells states that are written out: the chapter's examples, and those of SplitMix64's published words of 0 and of 1234567.
func samples() []known {
	zero := []uint64{0xE220A8397B1DCDAF, 0x6E789E6AA1B965F4, 0x06C45D188009454F, 0xF88BB8A8724C81EC}
	some := []uint64{6457827717110365317, 3203168211198807973, 9817491932198370423, 4593380528125082431}
	return []known{
		{1, 7, gen.State{Kind: 1, Mix: 7}},
		{4, 0, gen.State{Kind: 4, Philox: half.State{K: philox.Key{0x7B1DCDAF, 0xE220A839}}}},
		{1, 0, gen.State{Kind: 1}},
		{1, top, gen.State{Kind: 1, Mix: top}},
		{2, 0, gen.State{Kind: 2, Xosh: xosh.State(zero)}},
		{2, 1234567, gen.State{Kind: 2, Xosh: xosh.State(some)}},
		// The fourth word of 0 is even, that of 1234567 is odd.
		{3, 0, gen.State{Kind: 3, Pcg: pcg.State{S: wide.U128{Hi: zero[0], Lo: zero[1]}, I: wide.U128{Hi: zero[2], Lo: zero[3] + 1}}}},
		{3, 1234567, gen.State{Kind: 3, Pcg: pcg.State{S: wide.U128{Hi: some[0], Lo: some[1]}, I: wide.U128{Hi: some[2], Lo: some[3]}}}},
		{4, 1234567, gen.State{Kind: 4, Philox: half.State{K: philox.Key{uint32(some[0] % (1 << 32)), uint32(some[0] / (1 << 32))}}}},
	}
}

func TestExamples(t *testing.T) { // P14.1: the chapter's, and published words
	for _, k := range samples() {
		if got, err := New(k.kind, k.seed); got != k.want || err != api.OK {
			t.Errorf("New(%d, %d): %v, %v, not %v", k.kind, k.seed, got, err, k.want)
		}
		if got, err := At(k.kind, k.seed, wide.U128{}); got != k.want || err != api.OK {
			t.Errorf("At(%d, %d, 0): %v, %v, not %v", k.kind, k.seed, got, err, k.want)
		}
		if !Is(k.want, k.kind, k.seed, wide.U128{}) {
			t.Errorf("Is(%v, %d, %d, 0) is false", k.want, k.kind, k.seed)
		}
	}
}

func TestNew(t *testing.T) { // P14.1: of each kind, each part in its place, the other kinds' zero
	for _, seed := range seeds() {
		for _, kind := range kinds() {
			if got, err := New(kind, seed); got != made(kind, seed) || err != api.OK {
				t.Errorf("New(%d, %X): %v, %v, not %v", kind, seed, got, err, made(kind, seed))
			}
		}
	}
}

func TestNewAgainstMix(t *testing.T) { // P14.1: chapter 6's words, from the seed as its state on
	odd, even := 0, 0
	for _, seed := range seeds() {
		w, _, _ := mix.Words(seed, 4)
		m, _ := New(api.Mix, seed)
		x, _ := New(api.Xosh, seed)
		p, _ := New(api.Pcg, seed)
		h, _ := New(api.Philox, seed)
		if m.Mix != seed || !slices.Equal(x.Xosh[:], w) {
			t.Errorf("of %X: %v, %v", seed, m, x)
		}
		if p.Pcg.S.Hi != w[0] || p.Pcg.S.Lo != w[1] || p.Pcg.I.Hi != w[2] || p.Pcg.I.Lo>>1 != w[3]>>1 || p.Pcg.I.Lo&1 != 1 {
			t.Errorf("of %X: %v", seed, p)
		}
		key := uint64(h.Philox.K[1])<<32 + uint64(h.Philox.K[0])
		if key != w[0] || h.Philox.C != (wide.U128{}) || h.Philox.Second {
			t.Errorf("of %X: %v", seed, h)
		}
		if w[3]%2 == 0 {
			even++
		} else {
			odd++
		}
	}
	if odd < 50 || even < 50 {
		t.Errorf("of the fourth words %d are odd, %d even", odd, even)
	}
}

func TestNewRefuses(t *testing.T) { // P14.1: no such kind, whatever the seed
	for _, kind := range noKinds() {
		for _, seed := range fewSeeds(50) {
			if got, err := New(kind, seed); got != (gen.State{}) || err != api.ErrKind {
				t.Errorf("New(%d, %X): %v, %v", kind, seed, got, err)
			}
		}
	}
}

func TestAtIsSteps(t *testing.T) { // P14.1: of 0, 1 and some more steps, against single ones
	for _, kind := range kinds() {
		for _, seed := range fewSeeds(120) {
			s, _ := New(kind, seed)
			for n := range uint64(100) {
				if got, err := At(kind, seed, wide.Of(n)); got != s || err != api.OK {
					t.Fatalf("At(%d, %X, %d): %v, %v, not %v", kind, seed, n, got, err, s)
				}
				s = gen.Step(s)
			}
		}
	}
}

func TestAtIsJumps(t *testing.T) { // P14.1: of many steps, of one less than Limit, of all seeds by some and of some by all
	for _, kind := range kinds() {
		steps := below(kind)
		for i, seed := range seeds() {
			n := steps[i*7%len(steps)]
			if got, err := At(kind, seed, n); got != behind(kind, seed, n) || err != api.OK {
				t.Errorf("At(%d, %X, %x): %v, %v", kind, seed, n, got, err)
			}
		}
		for _, n := range steps {
			for _, seed := range []uint64{0, 7, top} {
				if got, err := At(kind, seed, n); got != behind(kind, seed, n) || err != api.OK {
					t.Errorf("At(%d, %X, %x): %v, %v", kind, seed, n, got, err)
				}
			}
		}
	}
}

func TestAtBySums(t *testing.T) { // P14.1: of Mix and Philox states far on are told by sums
	for _, seed := range seeds() {
		if got, _ := At(api.Mix, seed, wide.Of(1<<63-1)); got.Mix != seed+1<<63-mix.Gamma {
			t.Errorf("At(Mix, %X, 2^63 less 1): %v", seed, got)
		}
		want := made(api.Philox, seed)
		want.Philox.C, want.Philox.Second = wide.U128{Hi: 1<<62 - 1, Lo: top}, true
		if got, _ := At(api.Philox, seed, less(middle, 1)); got != want {
			t.Errorf("At(Philox, %X, 2^127 less 1): %v", seed, got)
		}
	}
}

func TestAtRefuses(t *testing.T) { // P14.1: no kind ahead of too many steps; Limit, one more, and the greatest number
	for _, kind := range noKinds() {
		for _, n := range []wide.U128{{}, wide.Of(1), wide.Of(1<<63 - 1), wide.Of(1 << 63), {Hi: 1}, less(middle, 1), middle, most} {
			if got, err := At(kind, 5, n); got != (gen.State{}) || err != api.ErrKind {
				t.Errorf("At(%d, 5, %x): %v, %v", kind, n, got, err)
			}
		}
	}
	for _, kind := range kinds() {
		for _, seed := range fewSeeds(60) {
			for _, n := range beyond(kind) {
				if got, err := At(kind, seed, n); got != (gen.State{}) || err != api.ErrOver {
					t.Errorf("At(%d, %X, %x): %v, %v", kind, seed, n, got, err)
				}
			}
		}
	}
}

func TestIs(t *testing.T) { // P14.1: what At tells, and no other kind, seed or number of steps
	for _, kind := range kinds() {
		for i, seed := range fewSeeds(40) {
			for _, n := range someBelow(kind, 30+i) {
				s := behind(kind, seed, n)
				if !Is(s, kind, seed, n) {
					t.Errorf("Is(%v, %d, %X, %x) is false", s, kind, seed, n)
				}
				more, _ := wide.Add(n, wide.Of(1))
				if Is(gen.Step(s), kind, seed, n) || Is(s, kind, seed, more) || Is(s, kind, seed+1, n) || Is(s, kind, ^seed, n) {
					t.Errorf("of another place or seed than %d, %X, %x: true", kind, seed, n)
				}
				for _, other := range append(noKinds(), kinds()...) {
					if other != kind && Is(s, other, seed, n) {
						t.Errorf("Is(%v, %d, %X, %x) is true", s, other, seed, n)
					}
				}
			}
		}
	}
}

// spoilt tells states that differ from a state in one number, some of which may not be.
func spoilt(s gen.State) []gen.State {
	l := []gen.State{{}, {Kind: s.Kind}}
	for _, change := range []func(s *gen.State){
		func(s *gen.State) { s.Kind = 0 },
		func(s *gen.State) { s.Kind++ },
		func(s *gen.State) { s.Kind += 256 },
		func(s *gen.State) { s.Mix ^= 1 },
		func(s *gen.State) { s.Mix ^= 1 << 63 },
		func(s *gen.State) { s.Xosh[0] ^= 1 },
		func(s *gen.State) { s.Xosh[1] ^= 1 << 31 },
		func(s *gen.State) { s.Xosh[2] ^= 1 << 32 },
		func(s *gen.State) { s.Xosh[3] ^= 1 << 63 },
		func(s *gen.State) { s.Pcg.S.Hi ^= 1 << 63 },
		func(s *gen.State) { s.Pcg.S.Lo ^= 1 },
		func(s *gen.State) { s.Pcg.I.Hi ^= 1 },
		func(s *gen.State) { s.Pcg.I.Lo ^= 1 },
		func(s *gen.State) { s.Pcg.I.Lo ^= 2 },
		func(s *gen.State) { s.Philox.C.Hi ^= 1 },
		func(s *gen.State) { s.Philox.C.Lo ^= 1 },
		func(s *gen.State) { s.Philox.K[0] ^= 1 << 31 },
		func(s *gen.State) { s.Philox.K[1] ^= 1 },
		func(s *gen.State) { s.Philox.Second = !s.Philox.Second },
	} {
		other := s
		change(&other)
		l = append(l, other)
	}
	// Of Mix, the seed 0 has the zero state.
	return slices.DeleteFunc(l, func(other gen.State) bool { return other == s })
}

func TestIsOfOtherStates(t *testing.T) { // P14.1: one bit more or less, of its own part or of another kind's
	for _, kind := range kinds() {
		for _, seed := range []uint64{0, 1, 7, top} {
			for _, n := range someBelow(kind, 200) {
				for _, s := range spoilt(behind(kind, seed, n)) {
					if Is(s, kind, seed, n) {
						t.Errorf("Is(%v, %d, %X, %x) is true", s, kind, seed, n)
					}
				}
			}
		}
	}
}

func TestIsWithoutAt(t *testing.T) { // P14.1: where there is no At: of no kind, and of too many steps, the zero state and others
	for _, kind := range noKinds() {
		for _, n := range []wide.U128{{}, wide.Of(1), middle, most} {
			for _, s := range []gen.State{{}, {Kind: kind}, made(1, 5), made(2, 5), made(3, 5), made(4, 5)} {
				if Is(s, kind, 5, n) {
					t.Errorf("Is(%v, %d, 5, %x) is true", s, kind, n)
				}
			}
		}
	}
	for _, kind := range kinds() {
		for _, n := range beyond(kind) {
			for _, s := range []gen.State{{}, {Kind: kind}, made(kind, 5), behind(kind, 5, n)} {
				if Is(s, kind, 5, n) {
					t.Errorf("Is(%v, %d, 5, %x) is true", s, kind, n)
				}
			}
		}
	}
	// 2^64 steps on, Mix is at the same state again.
	if s := made(api.Mix, 5); !Is(s, api.Mix, 5, wide.U128{}) || Is(s, api.Mix, 5, wide.U128{Hi: 1}) {
		t.Error("Is of a place of Mix that is 2^64")
	}
}

// manys tells numbers of words that may be asked.
func manys() []int { return []int{0, 1, 2, 3, 8, 100, api.MostWords - 1, api.MostWords} }

// outside tells numbers that aren't from 0 to MostWords.
func outside() []int {
	return []int{math.MinInt, -1 << 32, -api.MostWords, -2, -1, api.MostWords + 1, api.MostWords + 2, 2 * api.MostWords, 1 << 32, 1<<32 + 1, math.MaxInt}
}

// listed tells so many words at a place, one by one.
func listed(kind int, seed uint64, n wide.U128, many int) []uint64 {
	s, l := behind(kind, seed, n), []uint64{}
	for range many {
		l = append(l, gen.Word(s))
		s = gen.Step(s)
	}
	return l
}

func TestSome(t *testing.T) { // P14.2: the words of At's state, right below Limit too
	for _, kind := range kinds() {
		for i, seed := range fewSeeds(30) {
			for j, n := range someBelow(kind, 40+i) {
				many := manys()[(i+j)%len(manys())]
				want := listed(kind, seed, n, many)
				if got, err := Some(kind, seed, n, many); !slices.Equal(got, want) || err != api.OK {
					t.Errorf("Some(%d, %X, %x, %d): %X, %v", kind, seed, n, many, got, err)
				}
				at, _ := At(kind, seed, n)
				if words, _, _ := gen.Words(at, many); !slices.Equal(words, want) {
					t.Errorf("words of At(%d, %X, %x): %X", kind, seed, n, words)
				}
			}
		}
	}
}

func TestSomeManys(t *testing.T) { // P14.2: each number of words, from 0 to MostWords
	for _, kind := range kinds() {
		n := less(limit(kind), 9)
		all := listed(kind, 21, n, api.MostWords)
		for many := range api.MostWords + 1 {
			if got, err := Some(kind, 21, n, many); !slices.Equal(got, all[:many]) || err != api.OK {
				t.Errorf("Some(%d, 21, %x, %d): %X, %v", kind, n, many, got, err)
			}
		}
	}
}

func TestSomePublished(t *testing.T) { // P14.2: words that are written out
	zero := []uint64{0xE220A8397B1DCDAF, 0x6E789E6AA1B965F4, 0x06C45D188009454F, 0xF88BB8A8724C81EC}
	for n := range 4 {
		for many := range 5 - n {
			if got, err := Some(api.Mix, 0, wide.Of(uint64(n)), many); !slices.Equal(got, zero[n:n+many]) || err != api.OK {
				t.Errorf("Some(Mix, 0, %d, %d): %X, %v", n, many, got, err)
			}
		}
	}
}

func TestSomeAcrossLimit(t *testing.T) { // P14.2: words of places that are Limit and more
	for _, kind := range kinds() {
		for _, seed := range fewSeeds(80) {
			// Beyond, only gen tells the states.
			past, _, _ := gen.Words(behind(kind, seed, limit(kind)), 20)
			for ahead := 1; ahead <= 20; ahead++ {
				n := less(limit(kind), uint64(ahead))
				got, err := Some(kind, seed, n, ahead+20)
				if len(got) != ahead+20 || !slices.Equal(got[ahead:], past) || err != api.OK {
					t.Errorf("Some(%d, %X, %x, %d): %X, %v, not at last %X", kind, seed, n, ahead+20, got, err, past)
				}
			}
		}
	}
}

func TestSomeRefuses(t *testing.T) { // P14.2: none; At's error ahead of that of many
	for _, many := range append(outside(), manys()...) {
		for _, kind := range noKinds() {
			for _, n := range []wide.U128{{}, wide.Of(1), middle, most} {
				if got, err := Some(kind, 3, n, many); len(got) != 0 || err != api.ErrKind {
					t.Errorf("Some(%d, 3, %x, %d): %X, %v", kind, n, many, got, err)
				}
			}
		}
		for _, kind := range kinds() {
			for _, n := range beyond(kind) {
				if got, err := Some(kind, 3, n, many); len(got) != 0 || err != api.ErrOver {
					t.Errorf("Some(%d, 3, %x, %d): %X, %v", kind, n, many, got, err)
				}
			}
		}
	}
	for _, many := range outside() {
		for _, kind := range kinds() {
			for _, n := range someBelow(kind, 100) {
				if got, err := Some(kind, 3, n, many); len(got) != 0 || err != api.ErrArg {
					t.Errorf("Some(%d, 3, %x, %d): %X, %v", kind, n, many, got, err)
				}
			}
		}
	}
}

func TestStatesMayBe(t *testing.T) { // P14.3: all that New and At tell
	for _, kind := range kinds() {
		for i, seed := range seeds() {
			s, _ := New(kind, seed)
			if gen.Check(s) != api.OK || s.Kind != kind {
				t.Errorf("New(%d, %X) may not be: %v", kind, seed, s)
			}
			n := below(kind)[i%9]
			far, _ := At(kind, seed, n)
			if gen.Check(far) != api.OK || far.Kind != kind {
				t.Errorf("At(%d, %X, %x) may not be: %v", kind, seed, n, far)
			}
		}
	}
}

func TestDistinctSeeds(t *testing.T) { // P14.3: of all kinds together, of many in a row too
	l := seeds()
	for n := range uint64(3000) {
		l = append(l, n, 1<<32+n, 1<<63-1500+n, -n)
	}
	slices.Sort(l)
	l = slices.Compact(l)
	from := map[gen.State]uint64{}
	for _, kind := range kinds() {
		for _, seed := range l {
			s, _ := New(kind, seed)
			if other, twice := from[s]; twice {
				t.Errorf("%X and %X have the state %v", seed, other, s)
			}
			from[s] = seed
		}
	}
}

func TestDistinctSteps(t *testing.T) { // P14.3: distinct numbers of steps below Limit lead to distinct states
	for _, kind := range kinds() {
		for _, seed := range []uint64{0, 99} {
			reached := map[gen.State]wide.U128{}
			for _, n := range below(kind) {
				s, err := At(kind, seed, n)
				if other, twice := reached[s]; twice || err != api.OK {
					t.Errorf("of %d, %X, %x and %x lead to %v, %v", kind, seed, n, other, s, err)
				}
				reached[s] = n
			}
			if len(reached) < 150 {
				t.Errorf("of the kind %d only %d numbers of steps", kind, len(reached))
			}
		}
	}
}

func TestWordsAgree(t *testing.T) { // P14.3: at once, in parts, from a place ahead, and behind jumps of gen
	for _, kind := range kinds() {
		for i, seed := range fewSeeds(40) {
			for j, n := range someBelow(kind, 60) {
				ahead := (i*17 + j*29) % 101
				from := wide.U128{}
				if wide.Cmp(n, wide.Of(uint64(ahead))) >= 0 {
					from = less(n, uint64(ahead))
				}
				steps := int(n.Lo - from.Lo)
				want, _ := Some(kind, seed, n, 100)
				all, _ := Some(kind, seed, from, steps+100)
				if len(all) != steps+100 || !slices.Equal(all[steps:], want) {
					t.Errorf("of %d, %X: words at %x aren't those from %x on", kind, seed, n, from)
				}
				s, _ := At(kind, seed, from)
				s, _ = gen.Jump(s, wide.Of(uint64(steps)))
				first, s, _ := gen.Words(s, ahead%100)
				second, _, _ := gen.Words(s, 100-ahead%100)
				if !slices.Equal(append(first, second...), want) {
					t.Errorf("of %d, %X: words at %x in parts aren't those at once", kind, seed, n)
				}
			}
		}
	}
}

// answers is all that the package answers, but its list.
type answers struct {
	first, at       gen.State
	made, went, got api.Errno
	is              bool
}

// ask tells all answers, and the list of words.
func ask(s *gen.State, kind *int, seed *uint64, n *wide.U128, many *int) (answers, []uint64) {
	first, made := New(*kind, *seed)
	at, went := At(*kind, *seed, *n)
	words, got := Some(*kind, *seed, *n, *many)
	return answers{first, at, made, went, got, Is(*s, *kind, *seed, *n)}, words
}

func TestSameCallsSameAnswers(t *testing.T) { // P14.1, P14.2: R3 to R5; the list is one of its own, no argument is changed
	for i, kind := range append(kinds(), 0, 5) {
		for j, seed := range fewSeeds(70) {
			n := []wide.U128{{}, wide.Of(3), wide.Of(1<<63 - 1), less(middle, 1), middle}[j%5]
			for _, many := range []int{-1, 0, 1, 9, api.MostWords, api.MostWords + 1} {
				s, _ := At(kind, seed, n)
				a, k, d, steps, m := s, kind, seed, n, many
				first, words := ask(&a, &k, &d, &steps, &m)
				kept := slices.Clone(words)
				for i := range words[:cap(words)] {
					words[:cap(words)][i] += 77
				}
				other, otherKind, otherSeed := made(i%4+1, ^seed), i%4+1, ^seed
				ask(&other, &otherKind, &otherSeed, &steps, &m)
				again, wordsAgain := ask(&a, &k, &d, &steps, &m)
				if again != first || !slices.Equal(wordsAgain, kept) {
					t.Errorf("%d, %X, %x, %d: %v, %X, then %v, %X", kind, seed, n, many, first, kept, again, wordsAgain)
				}
				if a != s || k != kind || d != seed || steps != n || m != many || other != made(i%4+1, ^seed) || otherSeed != ^seed {
					t.Errorf("an argument was changed: %v, %d, %X, %x, %d, %v", a, k, d, steps, m, other)
				}
			}
		}
	}
}
