package stream

import (
	"math"
	"math/big"
	"math/rand/v2"
	"slices"
	"testing"

	"knucklebone/api"
	"knucklebone/cursor"
	"knucklebone/gen"
	"knucklebone/half"
	"knucklebone/pcg"
	"knucklebone/philox"
	"knucklebone/seed"
	"knucklebone/span"
	"knucklebone/wide"
	"knucklebone/xosh"
)

const top = math.MaxUint64

// most is 2^128 - 1, middle is 2^127.
var (
	most   = wide.U128{Hi: top, Lo: top}
	middle = wide.U128{Hi: 1 << 63}
)

// kinds tells all four.
func kinds() []int { return []int{api.Mix, api.Xosh, api.Pcg, api.Philox} }

// noKinds tells numbers that are no kind, some of which have a kind's lowest bits.
func noKinds() []int {
	l := []int{math.MinInt, math.MinInt + 1, -1 << 32, -256, -255, -4, -3, -2, -1, 0, 5, 6, 7, 8, 127, 128, 255, 256, math.MaxInt - 1, math.MaxInt}
	for _, k := range kinds() {
		l = append(l, k+256, k+1<<16, k+1<<32, k-256, k-1<<32, k+math.MinInt)
	}
	return l
}

// seeds tells seeds at edges, and others.
func seeds() []uint64 {
	return []uint64{0, 1, 7, 1234567, 1<<63 - 1, 1 << 63, top, 0x0123456789ABCDEF, 0x61C8864680B583EB}
}

// limit tells of how many steps the states of a kind are kept apart, by chapter 13.
func limit(kind int) wide.U128 {
	if kind == api.Mix {
		return wide.Of(1 << 63)
	}
	return middle
}

// less tells a number less another one.
func less(n wide.U128, by uint64) wide.U128 {
	n, _ = wide.Sub(n, wide.Of(by))
	return n
}

// more tells a number and another one.
func more(n wide.U128, by uint64) wide.U128 {
	n, _ = wide.Add(n, wide.Of(by))
	return n
}

// between tells a span by its places.
func between(from, to wide.U128) span.Span { return span.Span{From: from, To: to} }

// long tells the span of so many places from one on.
func long(from wide.U128, many uint64) span.Span { return between(from, more(from, many)) }

// lengths tells lengths of spans: about what a block has, what a call may ask for, and what 256 bytes need.
func lengths() []uint64 {
	return []uint64{0, 1, 2, 3, 7, 8, 9, 16, 31, 32, 33, 255, 256, 257, 300}
}

// froms tells places of a kind that spans may be from: at its edges, and across 2^64 where it has that.
func froms(kind int) []wide.U128 {
	l := []wide.U128{{}, wide.Of(1), wide.Of(5), wide.Of(1<<32 - 2), wide.Of(1<<62 + 1), less(limit(kind), 1<<40+3)}
	if kind != api.Mix {
		l = append(l, wide.Of(1<<63-3), wide.Of(top), wide.Of(top-5), wide.U128{Hi: 1}, wide.U128{Hi: 6, Lo: top - 2}, wide.U128{Hi: 1<<62 + 9, Lo: 12})
	}
	return l
}

// spans tells spans that may be allotments of a kind: of those lengths, at those places, and up to Limit; and great ones.
func spans(kind int) []span.Span {
	l := []span.Span{}
	for _, n := range lengths() {
		for _, from := range froms(kind) {
			l = append(l, long(from, n))
		}
		l = append(l, between(less(limit(kind), n), limit(kind)))
	}
	for _, from := range froms(kind) {
		l = append(l, between(from, limit(kind)), between(wide.U128{}, from))
	}
	return append(l, between(wide.U128{}, limit(kind)))
}

// someSpans tells each k-th of them.
func someSpans(kind, k int) []span.Span {
	few := []span.Span{}
	for i, s := range spans(kind) {
		if i%k == 0 {
			few = append(few, s)
		}
	}
	return few
}

// split tells SplitMix64's word number i from a seed on, by what is published of it.
func split(seed uint64, i int) uint64 {
	z := seed + uint64(i+1)*0x9E3779B97F4A7C15
	z = (z ^ z>>30) * 0xBF58476D1CE4E5B9
	z = (z ^ z>>27) * 0x94D049BB133111EB
	return z ^ z>>31
}

// spot is where a state is.
type spot struct {
	kind  int
	seed  uint64
	place wide.U128
}

// found has the states that behind told: jumps of xoshiro256** take their time.
var found = map[spot]gen.State{}

// behind tells the state at a place of a seed, by chapter 14's words.
func behind(kind int, seed uint64, place wide.U128) gen.State {
	at := spot{kind, seed, place}
	if s, ok := found[at]; ok {
		return s
	}
	a, b, c, d := split(seed, 0), split(seed, 1), split(seed, 2), split(seed, 3)
	first := []gen.State{
		{Kind: 1, Mix: seed},
		{Kind: 2, Xosh: xosh.State{a, b, c, d}},
		{Kind: 3, Pcg: pcg.State{S: wide.U128{Hi: a, Lo: b}, I: wide.U128{Hi: c, Lo: d | 1}}},
		{Kind: 4, Philox: half.State{K: philox.Key{uint32(a), uint32(a >> 32)}}},
	}[kind-1]
	found[at], _ = gen.Jump(first, place)
	return found[at]
}

// wordsFrom tells so many words from a state on.
func wordsFrom(s gen.State, many int) []uint64 {
	l := make([]uint64, many)
	for i := range l {
		l[i] = gen.Word(s)
		s = gen.Step(s)
	}
	return l
}

// model is what a stream is by the words of chapters 16 and 17: it has no words, but how many were made ahead.
type model struct {
	kind       int
	seed       uint64
	place, end wide.U128
	ahead      int
}

// great tells a number as one of the library's.
func great(n wide.U128) *big.Int {
	b := new(big.Int).SetUint64(n.Hi)
	return b.Add(b.Lsh(b, 64), new(big.Int).SetUint64(n.Lo))
}

// left tells how many words are left.
func (m model) left() *big.Int { return new(big.Int).Sub(great(m.end), great(m.place)) }

// goOn tells so many next words of the model, and goes on behind them; these many must be left.
func (m *model) goOn(many int) []uint64 {
	words := wordsFrom(behind(m.kind, m.seed, m.place), many)
	for range many {
		if m.ahead == 0 {
			for m.ahead < 8 && wide.Cmp(more(m.place, uint64(m.ahead)), limit(m.kind)) < 0 {
				m.ahead++
			}
		}
		m.ahead--
		m.place = more(m.place, 1)
	}
	return words
}

// refuses tells what is wrong with n things, for which so many words are needed.
func (m model) refuses(n, words int) api.Errno {
	switch {
	case n < 0 || n > 256:
		return api.ErrLong
	case m.left().Cmp(big.NewInt(int64(words))) < 0:
		return api.ErrExhausted
	}
	return api.OK
}

// word is Uint64 of the model.
func (m *model) word() (uint64, api.Errno) {
	if err := m.refuses(1, 1); err != api.OK {
		return 0, err
	}
	return m.goOn(1)[0], api.OK
}

// fill is Fill of the model.
func (m *model) fill(n int) ([]uint64, api.Errno) {
	if err := m.refuses(n, n); err != api.OK {
		return nil, err
	}
	return m.goOn(n), api.OK
}

// bytes is Bytes of the model: byte number i is that of the word number i by 8, down.
func (m *model) bytes(n int) ([]byte, api.Errno) {
	many := n / 8
	if n%8 > 0 {
		many++
	}
	if err := m.refuses(n, many); err != api.OK {
		return nil, err
	}
	words, l := m.goOn(many), make([]byte, n)
	for i := range l {
		l[i] = byte(words[i/8] >> (8 * (i % 8)))
	}
	return l, api.OK
}

// skip is Skip of the model.
func (m *model) skip(n wide.U128) api.Errno {
	if great(n).Cmp(m.left()) > 0 {
		return api.ErrExhausted
	}
	m.place, _ = wide.Add(m.place, n)
	if great(n).Cmp(big.NewInt(int64(m.ahead))) < 0 {
		m.ahead -= int(n.Lo)
	} else {
		m.ahead = 0
	}
	return api.OK
}

// stop is End of the model.
func (m *model) stop(at wide.U128) api.Errno {
	if great(at).Cmp(great(m.place)) < 0 || great(at).Cmp(great(m.end)) > 0 {
		return api.ErrArg
	}
	m.end = at
	return api.OK
}

// holdCursor tells whether a cursor is as the model's is.
func (m model) holdCursor(t *testing.T, c *cursor.Cursor, what string) bool {
	t.Helper()
	state := behind(m.kind, m.seed, m.place)
	words := wordsFrom(state, m.ahead)
	if c.Kind() != m.kind || c.Seed() != m.seed || c.Place() != m.place || c.State() != state || !slices.Equal(c.Buffered(), words) {
		t.Errorf("%s: of %+v the cursor is %d, %X, %v, %v, %X", what, m, c.Kind(), c.Seed(), c.Place(), c.State(), c.Buffered())
		return false
	}
	return true
}

// hold tells whether a stream is as the model is, in all that can be asked.
func (m model) hold(t *testing.T, s *Stream, what string) bool {
	t.Helper()
	if got := s.Allotment(); got != between(m.place, m.end) {
		t.Errorf("%s: of %+v the allotment is %v", what, m, got)
		return false
	}
	if got := s.Left(); great(got).Cmp(m.left()) != 0 {
		t.Errorf("%s: of %+v %v are left, not %v", what, m, got, m.left())
		return false
	}
	return m.holdCursor(t, s.Cursor(), what)
}

// made tells a new stream, and its model.
func made(t *testing.T, kind int, seed uint64, a span.Span) (*Stream, *model) {
	t.Helper()
	s, err := New(kind, seed, a)
	if err != api.OK || s == nil {
		t.Fatalf("New(%d, %X, %v): %v, %v", kind, seed, a, s, err)
	}
	return s, &model{kind: kind, seed: seed, place: a.From, end: a.To}
}

// wordOn asks both for the next word, and tells whether they are the same.
func wordOn(t *testing.T, s *Stream, m *model, what string) bool {
	t.Helper()
	had := *m
	want, wantErr := m.word()
	got, err := s.Uint64()
	if got != want || err != wantErr {
		t.Errorf("%s: of %+v Uint64: %X, %v, not %X, %v", what, had, got, err, want, wantErr)
		return false
	}
	return m.hold(t, s, what+", Uint64")
}

// fillOn asks both for the next words.
func fillOn(t *testing.T, s *Stream, m *model, n int, what string) bool {
	t.Helper()
	had := *m
	want, wantErr := m.fill(n)
	got, err := s.Fill(n)
	if !slices.Equal(got, want) || err != wantErr {
		t.Errorf("%s: of %+v Fill(%d): %X, %v, not %X, %v", what, had, n, got, err, want, wantErr)
		return false
	}
	return m.hold(t, s, what+", Fill")
}

// bytesOn asks both for the next bytes.
func bytesOn(t *testing.T, s *Stream, m *model, n int, what string) bool {
	t.Helper()
	had := *m
	want, wantErr := m.bytes(n)
	got, err := s.Bytes(n)
	if !slices.Equal(got, want) || err != wantErr {
		t.Errorf("%s: of %+v Bytes(%d): %X, %v, not %X, %v", what, had, n, got, err, want, wantErr)
		return false
	}
	return m.hold(t, s, what+", Bytes")
}

// skipOn lets both skip.
func skipOn(t *testing.T, s *Stream, m *model, n wide.U128, what string) bool {
	t.Helper()
	had := *m
	want := m.skip(n)
	if err := s.Skip(n); err != want {
		t.Errorf("%s: of %+v Skip(%v): %v, not %v", what, had, n, err, want)
		return false
	}
	return m.hold(t, s, what+", Skip")
}

// endOn lets both end.
func endOn(t *testing.T, s *Stream, m *model, at wide.U128, what string) bool {
	t.Helper()
	had := *m
	want := m.stop(at)
	if err := s.End(at); err != want {
		t.Errorf("%s: of %+v End(%v): %v, not %v", what, had, at, err, want)
		return false
	}
	return m.hold(t, s, what+", End")
}

func TestExample(t *testing.T) { // P17.2: the chapter's
	s, err := New(api.Mix, 0, between(wide.Of(0), wide.Of(2)))
	if err != api.OK {
		t.Fatal(err)
	}
	if l, err := s.Fill(3); len(l) != 0 || err != api.ErrExhausted {
		t.Errorf("Fill 3: %X, %v", l, err)
	}
	want := []byte{0xAF, 0xCD, 0x1D, 0x7B, 0x39, 0xA8, 0x20, 0xE2, 0xF4}
	if b, err := s.Bytes(9); !slices.Equal(b, want) || err != api.OK {
		t.Errorf("Bytes 9: %X, %v", b, err)
	}
	if w, err := s.Uint64(); w != 0 || err != api.ErrExhausted {
		t.Errorf("Uint64: %X, %v", w, err)
	}
	if s.Allotment() != between(wide.Of(2), wide.Of(2)) || s.Left() != (wide.U128{}) {
		t.Errorf("behind it: %v, %v", s.Allotment(), s.Left())
	}
}

func TestRefusesThreeHasTwo(t *testing.T) { // P17.2: the document's: of two words three are refused, and two are left
	for _, kind := range kinds() {
		s, m := made(t, kind, 3, long(wide.Of(4), 2))
		if l, err := s.Fill(3); l != nil || err != api.ErrExhausted || s.Left() != wide.Of(2) {
			t.Errorf("kind %d: %X, %v, and %v are left", kind, l, err, s.Left())
		}
		m.hold(t, s, "refused")
		fillOn(t, s, m, 2, "behind it")
	}
}

func TestWrittenOut(t *testing.T) { // P17.2: words of Mix, of the seed 0, and of its last places, written out
	s, err := New(api.Mix, 0, between(wide.Of(0), wide.Of(5)))
	if err != api.OK {
		t.Fatal(err)
	}
	if l, err := s.Fill(2); !slices.Equal(l, []uint64{0xE220A8397B1DCDAF, 0x6E789E6AA1B965F4}) || err != api.OK {
		t.Errorf("Fill 2: %X, %v", l, err)
	}
	if err := s.Skip(wide.Of(1)); err != api.OK {
		t.Errorf("Skip 1: %v", err)
	}
	if w, err := s.Uint64(); w != 0xF88BB8A8724C81EC || err != api.OK || s.Left() != wide.Of(1) {
		t.Errorf("Uint64: %X, %v", w, err)
	}
	s, err = New(api.Mix, 0, between(wide.Of(1<<63-2), wide.Of(1<<63)))
	if err != api.OK {
		t.Fatal(err)
	}
	if l, err := s.Fill(2); !slices.Equal(l, []uint64{0xF768BD32E7DB96EB, 0x25C26EA579CEA98A}) || err != api.OK || s.Left() != (wide.U128{}) {
		t.Errorf("the last two: %X, %v", l, err)
	}
}

func TestNew(t *testing.T) { // P17.1: of each kind, of each span; nothing is in the cursor's buffer
	for _, kind := range kinds() {
		for _, a := range spans(kind) {
			s, m := made(t, kind, 42, a)
			m.hold(t, s, "New")
		}
		for _, seed := range seeds() {
			for _, a := range someSpans(kind, 13) {
				s, m := made(t, kind, seed, a)
				m.hold(t, s, "New")
			}
		}
	}
}

func TestLeft(t *testing.T) { // P17.1: as the allotment's length: none, one, more, and all that a kind has
	for _, kind := range kinds() {
		for _, a := range spans(kind) {
			s, _ := made(t, kind, 6, a)
			if got := s.Left(); got != span.Len(a) || s.Allotment() != a {
				t.Errorf("kind %d, %v: %v are left of %v", kind, a, got, s.Allotment())
			}
		}
		all, _ := made(t, kind, 6, between(wide.U128{}, limit(kind)))
		if all.Left() != limit(kind) {
			t.Errorf("kind %d: of all %v are left", kind, all.Left())
		}
	}
}

// crossed tells spans that may not be.
func crossed() []span.Span {
	return []span.Span{
		between(wide.Of(1), wide.U128{}), between(wide.Of(5), wide.Of(4)), between(wide.U128{Hi: 1}, wide.Of(top)),
		between(wide.U128{Hi: 2, Lo: 1}, wide.U128{Hi: 1, Lo: 2}), between(most, wide.U128{}), between(most, less(most, 1)),
		between(middle, wide.Of(1<<63)), between(more(middle, 2), more(middle, 1)), between(wide.U128{Hi: 3, Lo: 4}, wide.U128{Hi: 3, Lo: 3}),
	}
}

// overs tells spans that may be, and whose To is above Limit.
func overs(kind int) []span.Span {
	l := []span.Span{}
	for _, to := range []wide.U128{more(limit(kind), 1), more(limit(kind), 2), more(limit(kind), 1<<40), most, less(most, 1), {Hi: 1<<63 + 1}, {Hi: top}} {
		l = append(l, between(wide.U128{}, to), between(wide.Of(3), to), between(less(limit(kind), 1), to), between(limit(kind), to), between(less(to, 1), to), between(to, to))
	}
	if kind == api.Mix {
		for _, to := range []wide.U128{{Hi: 1}, {Hi: 1, Lo: 5}, wide.Of(top), middle, {Hi: 1 << 62}} {
			l = append(l, between(wide.U128{}, to), between(wide.Of(2), to), between(to, to))
		}
	}
	return l
}

func TestNewRefuses(t *testing.T) { // P17.1: no kinds, ahead of spans that may not be, ahead of those above Limit; no stream beside an error
	for _, kind := range noKinds() {
		for _, a := range append(append(crossed(), overs(api.Mix)...), span.Span{}, long(wide.Of(2), 7), between(limit(api.Mix), middle)) {
			if s, err := New(kind, 7, a); s != nil || err != api.ErrKind {
				t.Errorf("New(%d, 7, %v): %v, %v", kind, a, s, err)
			}
		}
	}
	for _, kind := range kinds() {
		for _, seed := range seeds() {
			// Of some of these To is above Limit, of some From, of some both, of some none.
			for _, a := range append(crossed(), between(limit(kind), less(limit(kind), 1)), between(more(limit(kind), 1), limit(kind)), between(more(limit(kind), 2), more(limit(kind), 1))) {
				if s, err := New(kind, seed, a); s != nil || err != api.ErrArg {
					t.Errorf("New(%d, %X, %v): %v, %v", kind, seed, a, s, err)
				}
			}
			for _, a := range overs(kind) {
				if s, err := New(kind, seed, a); s != nil || err != api.ErrOver {
					t.Errorf("New(%d, %X, %v): %v, %v", kind, seed, a, s, err)
				}
			}
		}
	}
}

func TestUint64(t *testing.T) { // P17.2: one by one, with none left, one and more; then ErrExhausted, again and again
	for _, kind := range kinds() {
		for _, seed := range []uint64{0, 1234567, top} {
			for _, many := range []uint64{0, 1, 2, api.Block - 1, api.Block, api.Block + 1, 2*api.Block + 3} {
				for _, a := range []span.Span{long(wide.U128{}, many), long(wide.Of(1<<62-3), many), between(less(limit(kind), many), limit(kind))} {
					s, m := made(t, kind, seed, a)
					for range many {
						wordOn(t, s, m, "one by one")
					}
					for range 3 {
						if w, err := s.Uint64(); w != 0 || err != api.ErrExhausted {
							t.Errorf("kind %d, %v: at the end %X, %v", kind, a, w, err)
						}
						m.hold(t, s, "at the end")
					}
				}
			}
		}
	}
}

// tooLong tells numbers that Fill and Bytes refuse, whatever is left.
func tooLong() []int {
	return []int{math.MinInt, math.MinInt + 1, -1 << 32, -1<<32 + 5, -257, -256, -9, -8, -7, -2, -1, api.MostWords + 1, api.MostWords + 2, 264, 512, 2048, 2049, 1 << 16, 1<<32 + 3, math.MaxInt - 6, math.MaxInt - 1, math.MaxInt}
}

func TestFill(t *testing.T) { // P17.2: with less than n, n and more than n left
	for _, kind := range kinds() {
		for _, n := range []int{0, 1, 2, 7, 8, 9, 16, 17, 255, 256} {
			for _, from := range froms(kind) {
				for _, over := range []int{-256, -9, -2, -1, 0, 1, 2, 300} {
					if n+over < 0 {
						continue
					}
					s, m := made(t, kind, 5, long(from, uint64(n+over)))
					if fillOn(t, s, m, n, "a fill") && over >= 0 {
						wordOn(t, s, m, "behind a fill")
					}
				}
			}
			s, m := made(t, kind, 6, between(less(limit(kind), uint64(n)), limit(kind)))
			fillOn(t, s, m, n, "up to the limit")
			fillOn(t, s, m, 1, "at the limit")
			fillOn(t, s, m, 0, "at the limit, none")
		}
	}
}

func TestFillWithAllLeft(t *testing.T) { // P17.2: where what is left is more than a number of 64 bits, or has no lower ones
	for _, kind := range kinds() {
		for _, a := range []span.Span{between(wide.U128{}, limit(kind)), between(wide.Of(1), limit(kind)), between(wide.Of(9), less(limit(kind), 1))} {
			s, m := made(t, kind, 15, a)
			fillOn(t, s, m, 256, "of all")
			bytesOn(t, s, m, 255, "of all")
			wordOn(t, s, m, "of all")
			skipOn(t, s, m, less(s.Left(), 1), "of all but one")
			fillOn(t, s, m, 2, "of one")
			bytesOn(t, s, m, 9, "of one")
			bytesOn(t, s, m, 8, "of one")
			wordOn(t, s, m, "of none")
		}
	}
	for _, kind := range kinds()[1:] {
		s, m := made(t, kind, 15, between(wide.Of(77), wide.U128{Hi: 5, Lo: 77}))
		fillOn(t, s, m, 3, "of five times 2^64")
		bytesOn(t, s, m, 3, "of five times 2^64")
		wordOn(t, s, m, "of five times 2^64")
	}
}

func TestBytes(t *testing.T) { // P17.2: of each number, with just as many words left as are needed, one less, one more
	for _, kind := range kinds() {
		for n := range api.MostWords + 1 {
			need := (n + 7) / 8
			for i, from := range froms(kind) {
				// All numbers at one place, at the others the smallest and those about multiples of 8.
				if i > 1 && n > 17 && n%8 > 1 && n != 255 {
					continue
				}
				for _, left := range []int{need - 1, need, need + 1} {
					if left < 0 {
						continue
					}
					s, m := made(t, kind, 33, long(from, uint64(left)))
					if bytesOn(t, s, m, n, "bytes") && left >= need {
						wordOn(t, s, m, "behind bytes")
					}
				}
			}
		}
		s, m := made(t, kind, 34, between(less(limit(kind), 5), limit(kind)))
		bytesOn(t, s, m, 41, "one word more than up to the limit")
		bytesOn(t, s, m, 33, "up to the limit")
		bytesOn(t, s, m, 1, "at the limit")
		bytesOn(t, s, m, 0, "at the limit, none")
	}
}

func TestBytesAreOfWords(t *testing.T) { // P17.2: each word's lowest byte first; what is over of the last one is lost
	for _, kind := range kinds() {
		for n := range api.MostWords + 1 {
			s, _ := made(t, kind, 21, long(wide.Of(12), 40))
			words, err := s.Copy().Fill((n + 7) / 8)
			if err != api.OK {
				t.Fatal(err)
			}
			want := []byte{}
			for _, w := range words {
				for range 8 {
					want = append(want, byte(w))
					w >>= 8
				}
			}
			got, err := s.Bytes(n)
			if !slices.Equal(got, want[:n]) || err != api.OK {
				t.Errorf("kind %d: Bytes(%d): %X, %v, not %X", kind, n, got, err, want[:n])
			}
			if at := s.Cursor().Place(); at != wide.Of(12+uint64(len(words))) {
				t.Errorf("kind %d: behind Bytes(%d) the place is %v", kind, n, at)
			}
		}
	}
}

func TestTooLong(t *testing.T) { // P17.2: ErrLong, ahead of ErrExhausted; nothing is changed
	for _, kind := range kinds() {
		for _, a := range []span.Span{{}, long(wide.Of(9), 1), long(wide.Of(9), 3), long(wide.Of(9), 256), long(wide.Of(9), 257), long(wide.Of(9), 300), between(wide.Of(9), limit(kind)), between(limit(kind), limit(kind))} {
			for used := range 2 {
				s, m := made(t, kind, 4, a)
				for range used {
					wordOn(t, s, m, "ahead")
				}
				for _, n := range tooLong() {
					if l, err := s.Fill(n); l != nil || err != api.ErrLong {
						t.Errorf("kind %d, %v: Fill(%d): %X, %v", kind, a, n, l, err)
					}
					if b, err := s.Bytes(n); b != nil || err != api.ErrLong {
						t.Errorf("kind %d, %v: Bytes(%d): %X, %v", kind, a, n, b, err)
					}
				}
				m.hold(t, s, "too long")
				fillOn(t, s, m, 2, "behind it")
			}
		}
	}
}

func TestExhausted(t *testing.T) { // P17.2: no words and no bytes beside it, and nothing is changed, with words made ahead and without
	for _, kind := range kinds() {
		for left := range 34 {
			for used := range 3 {
				s, m := made(t, kind, 61, long(wide.Of(1<<40), uint64(left+used)))
				for range used {
					wordOn(t, s, m, "ahead")
				}
				for _, n := range []int{left + 1, left + 2, 100, 256} {
					if l, err := s.Fill(n); l != nil || err != api.ErrExhausted {
						t.Errorf("kind %d, %d left: Fill(%d): %X, %v", kind, left, n, l, err)
					}
				}
				for _, n := range []int{8*left + 1, 8*left + 2, 8*left + 8, 8*left + 9, 256} {
					// With 32 words left all numbers of bytes may be asked.
					if n > 256 || left >= 32 {
						continue
					}
					if b, err := s.Bytes(n); b != nil || err != api.ErrExhausted {
						t.Errorf("kind %d, %d left: Bytes(%d): %X, %v", kind, left, n, b, err)
					}
				}
				m.hold(t, s, "exhausted")
				fillOn(t, s, m, left, "all that is left")
				wordOn(t, s, m, "nothing left")
			}
		}
	}
}

func TestSkip(t *testing.T) { // P17.2: of none, of few, of all that is left, of more; with words made ahead and without
	for _, kind := range kinds() {
		for _, from := range froms(kind) {
			for used := range api.Block + 2 {
				for _, n := range []uint64{0, 1, 2, 6, 7, 8, 9, 20, 21, 22, top} {
					s, m := made(t, kind, 2, long(from, 20+uint64(used)))
					_ = m.goOn(used)
					for range used {
						_, _ = s.Uint64()
					}
					if skipOn(t, s, m, wide.Of(n), "skip") {
						wordOn(t, s, m, "behind a skip")
						fillOn(t, s, m, 2, "behind a skip")
					}
				}
			}
		}
	}
}

func TestSkipAll(t *testing.T) { // P17.2, P17.4: all that is left, at once and in halves; one more, up to the greatest number, is refused
	for _, kind := range kinds() {
		for _, a := range spans(kind) {
			s, m := made(t, kind, 70, a)
			left := span.Len(a)
			toZero, _ := wide.Sub(wide.U128{}, a.From)
			for _, n := range []wide.U128{more(left, 1), more(left, 2), more(left, 8), more(left, 1<<50), most, less(most, 1), {Hi: top}, less(toZero, 1), toZero, more(toZero, 1)} {
				// The way round from the place to 0 is 2^128 long, so 0, where the place is 0.
				if wide.Cmp(n, left) <= 0 {
					continue
				}
				if err := s.Skip(n); err != api.ErrExhausted {
					t.Errorf("kind %d, %v: Skip(%v): %v", kind, a, n, err)
				}
			}
			m.hold(t, s, "refused")
			whole, all := s.Copy(), *m
			skipOn(t, whole, &all, left, "all")
			skipOn(t, whole, &all, wide.U128{}, "none of none")
			skipOn(t, whole, &all, wide.Of(1), "one of none")
			first := wide.Right(left, 1)
			second, _ := wide.Sub(left, first)
			skipOn(t, s, m, first, "the first half")
			skipOn(t, s, m, second, "the second half")
			wordOn(t, s, m, "at the end")
		}
	}
}

func TestSkipAboveEndOnly(t *testing.T) { // P17.2: ErrExhausted, whether the cursor could go there or not
	for _, kind := range kinds() {
		s, m := made(t, kind, 12, between(wide.Of(5), wide.Of(9)))
		for _, n := range []wide.U128{wide.Of(5), wide.Of(6), less(limit(kind), 6), less(limit(kind), 5), less(limit(kind), 4), limit(kind), most} {
			if err := s.Skip(n); err != api.ErrExhausted {
				t.Errorf("kind %d: Skip(%v): %v", kind, n, err)
			}
			m.hold(t, s, "refused")
		}
	}
}

func TestEnd(t *testing.T) { // P17.3: at the place, the end, between; one below and one above each, at 0 and the greatest number
	for _, kind := range kinds() {
		for _, a := range spans(kind) {
			first, was := made(t, kind, 19, a)
			for range 3 {
				half, _ := wide.Add(was.place, wide.Right(first.Left(), 1))
				for _, at := range []wide.U128{was.place, less(was.place, 1), more(was.place, 1), more(was.place, 2), half, a.From, a.To, less(a.To, 1), more(a.To, 1), {}, wide.Of(1), most, limit(kind), more(limit(kind), 1)} {
					s, m := first.Copy(), *was
					endOn(t, s, &m, at, "end")
				}
				wordOn(t, first, was, "on to the next place")
			}
		}
	}
}

func TestEndCuts(t *testing.T) { // P17.3, P17.4: no word behind the new end is told, also of those that were made ahead; and none comes back
	for _, kind := range kinds() {
		for _, from := range froms(kind) {
			for used := range uint64(5) {
				for keep := range uint64(11) {
					s, m := made(t, kind, 14, long(from, 30))
					for range used {
						_, _ = s.Uint64()
					}
					_ = m.goOn(int(used))
					end := more(from, used+keep)
					endOn(t, s, m, end, "cut")
					endOn(t, s, m, more(end, 1), "no farther again")
					endOn(t, s, m, more(from, 30), "no farther again")
					if s.Left() != wide.Of(keep) {
						t.Errorf("kind %d, %v: %v are left, not %d", kind, from, s.Left(), keep)
					}
					fillOn(t, s, m, int(keep)+1, "one more than is kept")
					fillOn(t, s, m, int(keep), "all that is kept")
					wordOn(t, s, m, "behind them")
					endOn(t, s, m, end, "where it ends")
					endOn(t, s, m, less(end, 1), "where it was")
					endOn(t, s, m, more(end, 1), "behind its end")
				}
			}
		}
	}
}

func TestEndTwice(t *testing.T) { // P17.3: again and again, farther down each time
	for _, kind := range kinds() {
		s, m := made(t, kind, 90, between(wide.Of(40), limit(kind)))
		for range 64 {
			half, _ := wide.Add(m.place, wide.Right(s.Left(), 1))
			endOn(t, s, m, half, "a half")
			endOn(t, s, m, more(half, 1), "one more than a half")
			if s.Left() != (wide.U128{}) {
				wordOn(t, s, m, "a half")
			}
		}
	}
}

func TestWordsAreThoseAtPlaces(t *testing.T) { // P17.4: as the seed's words there, whatever was skipped; the end is never passed
	for _, kind := range kinds() {
		for _, from := range froms(kind) {
			want, err := seed.Some(kind, 23, from, 250)
			if err != api.OK {
				t.Fatal(err)
			}
			for _, skips := range [][]int{{0}, {1}, {0, 1, 2}, {7}, {8}, {9}, {0, 0, 0, 3}, {0, 12, 5}, {31, 0, 0, 0, 0, 0, 0, 0, 0, 2}} {
				s, _ := made(t, kind, 23, long(from, 250))
				// Each round is a word on, at least, so none goes on for ever.
				for i, k := 0, 0; i <= len(want); k++ {
					n := skips[k%len(skips)]
					err := s.Skip(wide.Of(uint64(n)))
					if i+n > len(want) {
						if err != api.ErrExhausted {
							t.Fatalf("kind %d, %v and %d of %d: Skip(%d): %v", kind, from, i, len(want), n, err)
						}
						break
					}
					i += n
					got, errWord := s.Uint64()
					if i == len(want) {
						if err != api.OK || got != 0 || errWord != api.ErrExhausted {
							t.Fatalf("kind %d, %v: at the end %v, %X, %v", kind, from, err, got, errWord)
						}
						break
					}
					if err != api.OK || got != want[i] || errWord != api.OK {
						t.Fatalf("kind %d, %v and %d, by %v: %v, %X, %v, not %X", kind, from, i, skips, err, got, errWord, want[i])
					}
					i++
				}
			}
		}
	}
}

// oneByOne tells all that is left, but no more than so many, by Uint64 alone.
func oneByOne(s *Stream, many int) []uint64 {
	l := []uint64{}
	for range many {
		w, err := s.Uint64()
		if err != api.OK {
			return l
		}
		l = append(l, w)
	}
	return l
}

// inParts tells all that is left, but not many more than so many, by parts of a size, each by a call that is given it.
func inParts[T any](s *Stream, size, many int, call func(n int) ([]T, api.Errno)) []T {
	l := []T{}
	for had := 0; had < many && s.Left() != (wide.U128{}); had += size {
		part, err := call(min(size, int(s.Left().Lo)))
		if err != api.OK {
			return nil
		}
		l = append(l, part...)
	}
	return l
}

func TestAtOnceAsOneByOne(t *testing.T) { // P17.4: in parts of each size, in words and in whole words' bytes
	for _, kind := range kinds() {
		for _, a := range []span.Span{long(wide.Of(3), 256), long(wide.Of(1<<61), 251), between(less(limit(kind), 255), limit(kind))} {
			s, _ := made(t, kind, 50, a)
			want := oneByOne(s.Copy(), 300)
			if wide.Of(uint64(len(want))) != span.Len(a) {
				t.Fatalf("kind %d, %v: %d words", kind, a, len(want))
			}
			bytes := []byte{}
			for _, w := range want {
				for i := range 8 {
					bytes = append(bytes, byte(w>>(8*i)))
				}
			}
			for size := 1; size <= len(want); size++ {
				u, v := s.Copy(), s.Copy()
				if got := inParts(u, size, 300, u.Fill); !slices.Equal(got, want) {
					t.Errorf("kind %d, %v: by %d at once other words", kind, a, size)
				}
				got := inParts(v, min(size, 32), 300, func(n int) ([]byte, api.Errno) { return v.Bytes(8 * n) })
				if !slices.Equal(got, bytes) {
					t.Errorf("kind %d, %v: by bytes of %d words at once other bytes", kind, a, size)
				}
				if u.Left() != (wide.U128{}) || v.Left() != (wide.U128{}) {
					t.Errorf("kind %d, %v: by %d at once %v and %v are left", kind, a, size, u.Left(), v.Left())
				}
			}
		}
	}
}

func TestCursorIsACopy(t *testing.T) { // P17.1, R3: as the stream's, with its buffer; both go on apart, and it knows no end
	for _, kind := range kinds() {
		for used := range api.Block + 2 {
			s, m := made(t, kind, 88, long(wide.Of(1<<50), 30))
			for range used {
				wordOn(t, s, m, "ahead")
			}
			c, n := s.Cursor(), *m
			first := s.Cursor()
			n.holdCursor(t, c, "Cursor")
			for range api.Block + 1 {
				wordOn(t, s, m, "the stream")
				n.holdCursor(t, c, "the cursor that stays")
			}
			for range 40 {
				want := n.goOn(1)[0]
				if w, err := c.Next(); w != want || err != api.OK {
					t.Errorf("kind %d: the cursor told %X, %v, not %X", kind, w, err, want)
				}
				m.hold(t, s, "the stream that stays")
			}
			if err := c.Skip(wide.Of(1 << 40)); err != api.OK {
				t.Errorf("kind %d: %v", kind, err)
			}
			m.hold(t, s, "the stream that stays")
			if got := first.Place(); got != wide.Of(1<<50+uint64(used)) {
				t.Errorf("kind %d: another cursor went on to %v", kind, got)
			}
			fillOn(t, s, m, 3, "the stream")
		}
	}
}

func TestCopy(t *testing.T) { // P17.1: as it, and apart from it, both ways, in words, skips and ends
	for _, kind := range kinds() {
		for _, a := range []span.Span{long(wide.U128{}, 40), long(wide.Of(1<<62), 40), between(less(limit(kind), 40), limit(kind))} {
			for used := range api.Block + 2 {
				s, m := made(t, kind, 77, a)
				for range used {
					_, _ = s.Uint64()
				}
				_ = m.goOn(used)
				d, n := s.Copy(), *m
				if d == s || d.cursor == s.cursor {
					t.Fatalf("kind %d: a copy is the stream itself, or has its cursor", kind)
				}
				n.hold(t, d, "copy")
				fillOn(t, s, m, api.Block+1, "the stream")
				endOn(t, s, m, more(m.place, 5), "the stream")
				n.hold(t, d, "the copy that stays")
				skipOn(t, d, &n, wide.Of(2), "the copy")
				bytesOn(t, d, &n, 11, "the copy")
				wordOn(t, d, &n, "the copy")
				endOn(t, d, &n, more(n.place, 3), "the copy")
				m.hold(t, s, "the stream that stays")
				fillOn(t, d, &n, 3, "the copy")
				wordOn(t, d, &n, "the copy's end")
				fillOn(t, s, m, 5, "the stream")
				wordOn(t, s, m, "the stream's end")
				n.hold(t, d, "the copy at its end")
			}
		}
	}
}

func TestCopyOfCopy(t *testing.T) { // P17.1: copies are streams like others, and copies of one are apart
	for _, kind := range kinds() {
		s, m := made(t, kind, 11, long(wide.Of(6), 25))
		wordOn(t, s, m, "the first")
		all, models := []*Stream{s}, []model{*m}
		for i := range 5 {
			skipOn(t, all[i], &models[i], wide.Of(1), "ahead of a copy")
			all, models = append(all, all[i].Copy()), append(models, models[i])
		}
		for round := range 12 {
			for i := range all {
				switch (round + i) % 4 {
				case 0:
					wordOn(t, all[i], &models[i], "a round")
				case 1:
					bytesOn(t, all[i], &models[i], 12, "a round")
				case 2:
					endOn(t, all[i], &models[i], less(models[i].end, 1), "a round")
				}
				for k := range all {
					models[k].hold(t, all[k], "all of a round")
				}
			}
		}
	}
}

func TestAnswersAreNoPart(t *testing.T) { // R3: words and bytes can be written over, and grown; nothing of the stream, a copy, or other answers changes
	for _, kind := range kinds() {
		for _, n := range []int{0, 1, 3, 8, 9, 64} {
			s, m := made(t, kind, 13, long(wide.Of(1000), 300))
			wordOn(t, s, m, "ahead")
			d, was := s.Copy(), *m
			words, err := s.Fill(n)
			same, errSame := d.Fill(n)
			bytes, errBytes := s.Bytes(n)
			sameBytes, errSameBytes := d.Bytes(n)
			if err != api.OK || errSame != api.OK || errBytes != api.OK || errSameBytes != api.OK {
				t.Fatal(err, errSame, errBytes, errSameBytes)
			}
			_ = was.goOn(n + (n+7)/8)
			*m = was
			kept, keptBytes := slices.Clone(same), slices.Clone(sameBytes)
			for i := range words {
				words[i], bytes[i] = ^words[i], ^bytes[i]
			}
			_ = append(words, 1, 2, 3)
			_ = append(bytes, 1, 2, 3)
			if !slices.Equal(same, kept) || !slices.Equal(sameBytes, keptBytes) {
				t.Errorf("kind %d: answers share words or bytes", kind)
			}
			m.hold(t, s, "written over")
			was.hold(t, d, "written over, of the copy")
			fillOn(t, s, m, 20, "behind it")
			fillOn(t, d, &was, 20, "behind it, of the copy")
			if !slices.Equal(same, kept) || !slices.Equal(sameBytes, keptBytes) {
				t.Errorf("kind %d: what was told was changed", kind)
			}
		}
	}
}

func TestBufferOfCursorIsNoPart(t *testing.T) { // R3: what its cursor tells can be written over
	for _, kind := range kinds() {
		s, m := made(t, kind, 16, long(wide.Of(2), 30))
		for range 20 {
			wordOn(t, s, m, "ahead")
			words := s.Cursor().Buffered()
			for i := range words {
				words[i] = ^words[i]
			}
			m.hold(t, s, "written over")
		}
	}
}

// somePart tells a number up to about what is left: few words, about as many as are left, or any.
func somePart(r *rand.Rand, m model) wide.U128 {
	left, _ := wide.Sub(m.end, m.place)
	switch r.IntN(8) {
	case 0:
		n, over := wide.Sub(more(left, 2), wide.Of(r.Uint64N(6)))
		if over {
			return wide.U128{}
		}
		return n
	case 1:
		return wide.Right(left, 1+r.IntN(60))
	case 2:
		return wide.Right(wide.U128{Hi: r.Uint64(), Lo: r.Uint64()}, r.IntN(128))
	}
	return wide.Of(r.Uint64N(api.Block + 3))
}

// someEnd tells a number about a stream's places: about its end, about its place, or some part on.
func someEnd(r *rand.Rand, m model) wide.U128 {
	switch r.IntN(4) {
	case 0:
		return less(more(m.end, 1), r.Uint64N(4))
	case 1:
		return less(more(m.place, 60), r.Uint64N(63))
	}
	n, _ := wide.Add(m.place, somePart(r, m))
	return n
}

func TestWalks(t *testing.T) { // P17.1 to P17.4: random calls, beside the model, of streams and copies of them
	r := rand.New(rand.NewPCG(22, 23))
	for walk := range 200 {
		kind := kinds()[walk%4]
		all := spans(kind)
		first := all[r.IntN(len(all))]
		s, m := made(t, kind, r.Uint64(), first)
		for range 40 {
			ok := true
			switch r.IntN(12) {
			case 0, 1:
				ok = skipOn(t, s, m, somePart(r, *m), "a walk")
			case 2:
				s = s.Copy()
				ok = m.hold(t, s, "a walk, Copy")
			case 3, 4:
				ok = bytesOn(t, s, m, r.IntN(100)-5, "a walk")
			case 5, 6:
				ok = fillOn(t, s, m, r.IntN(40)-2, "a walk")
			case 7:
				// Most ends would leave too little to walk on.
				if r.IntN(4) == 0 {
					ok = endOn(t, s, m, someEnd(r, *m), "a walk")
				}
			default:
				ok = wordOn(t, s, m, "a walk")
			}
			if !ok {
				return
			}
			if wide.Cmp(s.Cursor().Place(), first.To) > 0 {
				t.Errorf("kind %d: %v was passed", kind, first)
			}
		}
	}
}

// ask tells all that a row of calls answers.
func ask(kind int, seed uint64, a span.Span) []uint64 {
	s, err := New(kind, seed, a)
	l := []uint64{uint64(err)}
	if err != api.OK {
		return l
	}
	for i := range 30 {
		w, err := s.Uint64()
		words, errWords := s.Fill(i % 5)
		bytes, errBytes := s.Bytes(i % 11)
		l = append(l, w, uint64(err), uint64(errWords), uint64(errBytes), uint64(s.Skip(wide.Of(uint64(i%3)))))
		l = append(l, words...)
		for _, b := range bytes {
			l = append(l, uint64(b))
		}
		if i%7 == 6 {
			l = append(l, uint64(s.End(less(s.Allotment().To, 1))))
		}
		l = append(l, s.Left().Hi, s.Left().Lo, s.Allotment().From.Hi, s.Allotment().From.Lo)
	}
	return l
}

func TestSameCallsSameAnswers(t *testing.T) { // R4, R5: whatever else was called in between
	for _, kind := range append(kinds(), 0, 5) {
		for _, a := range []span.Span{{}, long(wide.Of(12), 100), long(wide.Of(5), 500), between(less(limit(kind), 120), limit(kind)), between(most, most), between(wide.Of(2), wide.Of(1))} {
			want := ask(kind, 8, a)
			for _, other := range kinds() {
				_ = ask(other, 9, a)
				if got := ask(kind, 8, a); !slices.Equal(got, want) {
					t.Errorf("kind %d, %v: other answers than ahead of those of kind %d", kind, a, other)
				}
			}
		}
	}
}

func TestStreamsAreApart(t *testing.T) { // R5: two of the same kind, seed and span go on by themselves
	for _, kind := range kinds() {
		s, m := made(t, kind, 4, long(wide.Of(2), 90))
		d, n := made(t, kind, 4, long(wide.Of(2), 90))
		for i := range 20 {
			wordOn(t, s, m, "the first one")
			n.hold(t, d, "the other one")
			if i%3 == 0 {
				skipOn(t, d, n, wide.Of(5), "the other one")
				bytesOn(t, d, n, 13, "the other one")
				endOn(t, d, n, less(n.end, 1), "the other one")
				m.hold(t, s, "the first one")
			}
		}
	}
}
