package tree

import (
	"maps"
	"math"
	"math/big"
	"math/bits"
	"math/rand/v2"
	"reflect"
	"slices"
	"strconv"
	"testing"

	"knucklebone/api"
	"knucklebone/seed"
	"knucklebone/span"
	"knucklebone/stream"
	"knucklebone/wide"
)

const (
	// most is the greatest Next, and above all handles: 2^31 - 1.
	most = 1<<31 - 1
	top  = math.MaxUint64
)

// greatest is 2^128 - 1.
var greatest = wide.U128{Hi: top, Lo: top}

// kinds tells all four.
func kinds() []int { return []int{api.Mix, api.Xosh, api.Pcg, api.Philox} }

// seeds tells seeds at edges, and others.
func seeds() []uint64 { return []uint64{0, 1, 1234567, 1 << 63, top, 0x0123456789ABCDEF} }

// limit tells of how many steps the states of a kind are kept apart, by chapter 13.
func limit(kind int) wide.U128 {
	if kind == api.Mix {
		return wide.Of(1 << 63)
	}
	return wide.U128{Hi: 1 << 63}
}

// numbers tells handles that are none in most trees: negative ones, great ones, and the least and the greatest number.
func numbers() []int {
	return []int{-1, -2, -16, -1 << 31, -1<<31 - 1, -1 << 32, math.MinInt + 1, math.MinInt, 1 << 30, most - 1, most, most + 1, 1 << 32, 1<<32 + 1, math.MaxInt - 1, math.MaxInt}
}

// near tells the numbers near some: all those up to two more or less.
func near(of ...int) []int {
	l := []int{}
	for _, n := range of {
		for by := -2; by <= 2; by++ {
			l = append(l, n+by)
		}
	}
	return l
}

// great tells a number as one of the library's; small tells it back.
func great(n wide.U128) *big.Int {
	b := new(big.Int).SetUint64(n.Hi)
	return b.Add(b.Lsh(b, 64), new(big.Int).SetUint64(n.Lo))
}

func small(b *big.Int) wide.U128 {
	return wide.U128{Hi: new(big.Int).Rsh(b, 64).Uint64(), Lo: new(big.Int).And(b, new(big.Int).SetUint64(top)).Uint64()}
}

// more tells a number and another one.
func more(n wide.U128, by uint64) wide.U128 {
	return small(new(big.Int).Add(great(n), new(big.Int).SetUint64(by)))
}

// less tells a number less another one.
func less(n wide.U128, by uint64) wide.U128 {
	return small(new(big.Int).Sub(great(n), new(big.Int).SetUint64(by)))
}

// between tells a span by its places; long one of so many places; sp one of small places; all that of all places of a kind.
func between(from, to wide.U128) span.Span       { return span.Span{From: from, To: to} }
func long(from wide.U128, many uint64) span.Span { return between(from, more(from, many)) }
func sp(from, to uint64) span.Span               { return between(wide.Of(from), wide.Of(to)) }
func all(kind int) span.Span                     { return between(wide.U128{}, limit(kind)) }
func length(s span.Span) *big.Int                { return new(big.Int).Sub(great(s.To), great(s.From)) }
func lengthIsBelow(s span.Span, n int) bool      { return length(s).Cmp(big.NewInt(int64(n))) < 0 }

// model is a tree by the chapter's words: which allotment stands behind which handle, and Next.
type model struct {
	kind  int
	seed  uint64
	spans map[int]span.Span
	next  int
}

func (m *model) handles() []int { return slices.Sorted(maps.Keys(m.spans)) }

func (m *model) copied() *model {
	c := *m
	c.spans = maps.Clone(m.spans)
	return &c
}

func (m *model) none(h int) api.Errno {
	if _, ok := m.spans[h]; !ok {
		return api.ErrNone
	}
	return api.OK
}

func (m *model) split(h int) (int, api.Errno) {
	s, ok := m.spans[h]
	switch {
	case !ok:
		return 0, api.ErrNone
	case len(m.spans) == 16:
		return 0, api.ErrFull
	case m.next == most:
		return 0, api.ErrOver
	case lengthIsBelow(s, 2):
		return 0, api.ErrShort
	}
	// Of an odd length the first half has 1 more.
	up := new(big.Int).Add(length(s), big.NewInt(1))
	at := small(up.Add(great(s.From), up.Rsh(up, 1)))
	m.spans[h], m.spans[m.next] = between(s.From, at), between(at, s.To)
	m.next++
	return m.next - 1, api.OK
}

func (m *model) drop(h int) api.Errno {
	err := m.none(h)
	delete(m.spans, h)
	return err
}

// peek tells so many words at a stream's place; these many must be left.
func (m *model) peek(h, many int) []uint64 {
	if many == 0 {
		return nil
	}
	words, err := seed.Some(m.kind, m.seed, m.spans[h].From, many)
	if err != api.OK {
		panic(err)
	}
	return words
}

// goOn tells so many words of a stream, and goes on behind them.
func (m *model) goOn(h, many int) []uint64 {
	words := m.peek(h, many)
	s := m.spans[h]
	m.spans[h] = between(more(s.From, uint64(many)), s.To)
	return words
}

// refuses tells what is wrong with n things of a stream, for which so many words are needed.
func (m *model) refuses(h, n, words int) api.Errno {
	switch {
	case m.none(h) != api.OK:
		return api.ErrNone
	case n < 0 || n > 256:
		return api.ErrLong
	case lengthIsBelow(m.spans[h], words):
		return api.ErrExhausted
	}
	return api.OK
}

func (m *model) word(h int) (uint64, api.Errno) {
	if err := m.refuses(h, 1, 1); err != api.OK {
		return 0, err
	}
	return m.goOn(h, 1)[0], api.OK
}

func (m *model) fill(h, n int) ([]uint64, api.Errno) {
	if err := m.refuses(h, n, n); err != api.OK {
		return nil, err
	}
	return m.goOn(h, n), api.OK
}

func (m *model) bytes(h, n int) ([]byte, api.Errno) {
	many := n / 8
	if n%8 > 0 {
		many++
	}
	if err := m.refuses(h, n, many); err != api.OK {
		return nil, err
	}
	words, l := m.goOn(h, many), make([]byte, n)
	for i := range l {
		l[i] = byte(words[i/8] >> (8 * (i % 8)))
	}
	return l, api.OK
}

func (m *model) skip(h int, n wide.U128) api.Errno {
	s, ok := m.spans[h]
	if !ok {
		return api.ErrNone
	}
	if great(n).Cmp(length(s)) > 0 {
		return api.ErrExhausted
	}
	m.spans[h] = between(small(new(big.Int).Add(great(s.From), great(n))), s.To)
	return api.OK
}

func (m *model) bounded(h int, b uint64) (uint64, api.Errno) {
	if err := m.none(h); err != api.OK {
		return 0, err
	}
	if b == 0 {
		return 0, api.ErrZero
	}
	_, refused := bits.Div64(1, 0, max(b, 2))
	for !lengthIsBelow(m.spans[h], 1) {
		hi, lo := bits.Mul64(m.goOn(h, 1)[0], b)
		if b == 1 || lo >= refused {
			return hi, api.OK
		}
	}
	return 0, api.ErrExhausted
}

// wrong tells whether a span may be no allotment beside the others, place by place where it is short.
func (m *model) wrong(s span.Span) bool {
	if great(s.From).Cmp(great(s.To)) > 0 || great(s.To).Cmp(great(limit(m.kind))) > 0 {
		return true
	}
	for _, o := range m.spans {
		from, to := great(s.From), great(s.To)
		if f := great(o.From); f.Cmp(from) > 0 {
			from = f
		}
		if t := great(o.To); t.Cmp(to) < 0 {
			to = t
		}
		if from.Cmp(to) < 0 {
			return true
		}
	}
	return false
}

func (m *model) lay(h int, s span.Span) api.Errno {
	switch {
	case m.wrong(s):
		return api.ErrArg
	case len(m.spans) == 16:
		return api.ErrFull
	case h < m.next || h >= most:
		return api.ErrArg
	}
	m.spans[h], m.next = s, h+1
	return api.OK
}

func (m *model) goes(next int) api.Errno {
	if next < m.next || next > most {
		return api.ErrArg
	}
	m.next = next
	return api.OK
}

// both is a tree and its model, of which the same is asked.
type both struct {
	t  *testing.T
	tr *Tree
	m  *model
}

// newBoth tells a new tree, and its model.
func newBoth(t *testing.T, kind int, of uint64) *both {
	t.Helper()
	tr, err := New(kind, of)
	if tr == nil || err != api.OK {
		t.Fatalf("New(%d, %X): %v, %v", kind, of, tr, err)
	}
	return &both{t, tr, &model{kind, of, map[int]span.Span{0: all(kind)}, 1}}
}

// bare tells a bare tree, and its model, with some allotments laid behind handles from 0 on.
func bare(t *testing.T, kind int, of uint64, laid ...span.Span) *both {
	t.Helper()
	tr, err := Bare(kind, of)
	if tr == nil || err != api.OK {
		t.Fatalf("Bare(%d, %X): %v, %v", kind, of, tr, err)
	}
	b := &both{t, tr, &model{kind, of, map[int]span.Span{}, 0}}
	for h, s := range laid {
		if err := b.lay(h, s); err != api.OK {
			t.Fatalf("Lay(%d, %v): %v", h, s, err)
		}
	}
	return b
}

// copied tells a copy of both.
func (b *both) copied() *both { return &both{b.t, b.tr.Copy(), b.m.copied()} }

// same tells whether a tree is as its model in all that can be asked.
func (b *both) same(what string) {
	b.t.Helper()
	tr, m := b.tr, b.m
	if tr.Kind() != m.kind || tr.Seed() != m.seed {
		b.t.Errorf("%s: kind %d, seed %X, not %d, %X", what, tr.Kind(), tr.Seed(), m.kind, m.seed)
	}
	want, spans := m.handles(), []span.Span{}
	for _, h := range want {
		spans = append(spans, m.spans[h])
	}
	if l := tr.Handles(); !slices.Equal(l, want) {
		b.t.Errorf("%s: handles %v, not %v", what, l, want)
	}
	if n := tr.Next(); n != m.next {
		b.t.Errorf("%s: Next %d, not %d", what, n, m.next)
	}
	if l := tr.Spans(); !slices.Equal(l, spans) {
		b.t.Errorf("%s: spans %v, not %v", what, l, spans)
	}
	for _, h := range append(numbers(), near(append(want, 0, m.next)...)...) {
		b.stream(h, what)
	}
}

// stream holds what Stream tells of a handle against the model.
func (b *both) stream(h int, what string) *stream.Stream {
	b.t.Helper()
	s, err := b.tr.Stream(h)
	if want := b.m.none(h); err != want || (s == nil) != (want != api.OK) {
		b.t.Errorf("%s: Stream(%d): %v, %v, not %v", what, h, s, err, want)
		return nil
	}
	if s == nil {
		return nil
	}
	a, c := b.m.spans[h], s.Cursor()
	if s.Allotment() != a || great(s.Left()).Cmp(length(a)) != 0 || c.Kind() != b.m.kind || c.Seed() != b.m.seed || c.Place() != a.From {
		b.t.Errorf("%s: Stream(%d): %v, %v left, of %d, %X, at %v, not %v", what, h, s.Allotment(), s.Left(), c.Kind(), c.Seed(), c.Place(), a)
	}
	return s
}

// words holds the next words of all streams' copies against the seed's.
func (b *both) words(what string) {
	b.t.Helper()
	for _, h := range b.m.handles() {
		many := 10
		if s := b.m.spans[h]; lengthIsBelow(s, many) {
			many = int(length(s).Int64())
		}
		s := b.stream(h, what)
		want := b.m.peek(h, many)
		if l, err := s.Fill(many); !slices.Equal(l, want) || err != api.OK {
			b.t.Errorf("%s: the words of %d at %v: %X, %v, not %X", what, h, b.m.spans[h], l, err, want)
		}
	}
}

func (b *both) split(h int) int {
	b.t.Helper()
	want, wantErr := b.m.split(h)
	got, err := b.tr.Split(h)
	if got != want || err != wantErr {
		b.t.Errorf("Split(%d): %d, %v, not %d, %v", h, got, err, want, wantErr)
	}
	b.same("behind Split " + strconv.Itoa(h))
	return got
}

func (b *both) drop(h int) {
	b.t.Helper()
	want := b.m.drop(h)
	if err := b.tr.Drop(h); err != want {
		b.t.Errorf("Drop(%d): %v, not %v", h, err, want)
	}
	b.same("behind Drop " + strconv.Itoa(h))
}

func (b *both) word(h int) {
	b.t.Helper()
	want, wantErr := b.m.word(h)
	if w, err := b.tr.Uint64(h); w != want || err != wantErr {
		b.t.Errorf("Uint64(%d): %X, %v, not %X, %v", h, w, err, want, wantErr)
	}
	b.same("behind Uint64 " + strconv.Itoa(h))
}

func (b *both) fill(h, n int) {
	b.t.Helper()
	want, wantErr := b.m.fill(h, n)
	if l, err := b.tr.Fill(h, n); !slices.Equal(l, want) || err != wantErr {
		b.t.Errorf("Fill(%d, %d): %X, %v, not %X, %v", h, n, l, err, want, wantErr)
	}
	b.same("behind Fill " + strconv.Itoa(h))
}

func (b *both) bytes(h, n int) {
	b.t.Helper()
	want, wantErr := b.m.bytes(h, n)
	if l, err := b.tr.Bytes(h, n); !slices.Equal(l, want) || err != wantErr {
		b.t.Errorf("Bytes(%d, %d): %X, %v, not %X, %v", h, n, l, err, want, wantErr)
	}
	b.same("behind Bytes " + strconv.Itoa(h))
}

func (b *both) skip(h int, n wide.U128) {
	b.t.Helper()
	want := b.m.skip(h, n)
	if err := b.tr.Skip(h, n); err != want {
		b.t.Errorf("Skip(%d, %v): %v, not %v", h, n, err, want)
	}
	b.same("behind Skip " + strconv.Itoa(h))
}

func (b *both) bounded(h int, by uint64) api.Errno {
	b.t.Helper()
	want, wantErr := b.m.bounded(h, by)
	v, err := b.tr.Bounded(h, by)
	if v != want || err != wantErr {
		b.t.Errorf("Bounded(%d, %d): %d, %v, not %d, %v", h, by, v, err, want, wantErr)
	}
	b.same("behind Bounded " + strconv.Itoa(h))
	return err
}

func (b *both) lay(h int, s span.Span) api.Errno {
	b.t.Helper()
	want := b.m.lay(h, s)
	err := b.tr.Lay(h, s)
	if err != want {
		b.t.Errorf("Lay(%d, %v): %v, not %v", h, s, err, want)
	}
	b.same("behind Lay " + strconv.Itoa(h))
	return err
}

func (b *both) goes(next int) {
	b.t.Helper()
	want := b.m.goes(next)
	if err := b.tr.Goes(next); err != want {
		b.t.Errorf("Goes(%d): %v, not %v", next, err, want)
	}
	b.same("behind Goes " + strconv.Itoa(next))
}

// full splits, each one in its turn, till there are MostHandles.
func (b *both) full() {
	b.t.Helper()
	for i := range 100 {
		if l := b.m.handles(); len(l) < api.MostHandles {
			b.split(l[i%len(l)])
		}
	}
	if len(b.m.spans) != api.MostHandles {
		b.t.Fatalf("not full: %v", b.m.spans)
	}
}

// fullBy splits one, which is long, till there are MostHandles.
func (b *both) fullBy(h int) {
	b.t.Helper()
	for range api.MostHandles - len(b.m.spans) {
		b.split(h)
	}
	if len(b.m.spans) != api.MostHandles {
		b.t.Fatalf("not full: %v", b.m.spans)
	}
}

func TestExample(t *testing.T) { // P20.1, P20.2: the chapter's
	tr, err := New(api.Mix, 0)
	if err != api.OK {
		t.Fatal(err)
	}
	for want := 1; want <= 2; want++ {
		if h, err := tr.Split(0); h != want || err != api.OK {
			t.Errorf("Split 0: %d, %v, not %d", h, err, want)
		}
	}
	want := []span.Span{sp(0, 1<<61), sp(1<<62, 1<<63), sp(1<<61, 1<<62)}
	if l := tr.Spans(); !slices.Equal(l, want) {
		t.Errorf("allotments %v, not %v", l, want)
	}
}

func TestExamplesOfTheWhole(t *testing.T) { // P20.2, P20.3: the document's: the first word of SplitMix64 of the seed 0; 3 to 8, halved; handles 0, 1; 1 dropped; the next one is 2
	tr, _ := New(api.Mix, 0)
	if w, err := tr.Uint64(0); w != 0xE220A8397B1DCDAF || err != api.OK {
		t.Errorf("%X, %v", w, err)
	}
	_, _ = tr.Split(0)
	_ = tr.Drop(1)
	if h, err := tr.Split(0); h != 2 || err != api.OK {
		t.Errorf("%d, %v", h, err)
	}
	for _, kind := range kinds() {
		b := bare(t, kind, 5, sp(3, 8))
		b.split(0)
		if l := b.tr.Spans(); !slices.Equal(l, []span.Span{sp(3, 6), sp(6, 8)}) {
			t.Errorf("kind %d: %v", kind, l)
		}
	}
}

func TestWrittenOut(t *testing.T) { // P20.3: words of Mix, of the seed 0, written out
	tr, _ := New(api.Mix, 0)
	if l, err := tr.Fill(0, 2); !slices.Equal(l, []uint64{0xE220A8397B1DCDAF, 0x6E789E6AA1B965F4}) || err != api.OK {
		t.Errorf("%X, %v", l, err)
	}
	if l, err := tr.Bytes(0, 9); !slices.Equal(l, []byte{0x4F, 0x45, 0x09, 0x80, 0x18, 0x5D, 0xC4, 0x06, 0xEC}) || err != api.OK {
		t.Errorf("%X, %v", l, err)
	}
	if l := tr.Spans(); !slices.Equal(l, []span.Span{sp(4, 1<<63)}) {
		t.Errorf("%v", l)
	}
	tr, _ = New(api.Mix, 0)
	if v, err := tr.Bounded(0, 6); v != 5 || err != api.OK {
		t.Errorf("%d, %v", v, err)
	}
	if err := tr.Skip(0, wide.Of(1<<63-3)); err != api.OK {
		t.Errorf("%v", err)
	}
	if l, err := tr.Fill(0, 2); !slices.Equal(l, []uint64{0xF768BD32E7DB96EB, 0x25C26EA579CEA98A}) || err != api.OK {
		t.Errorf("the last two: %X, %v", l, err)
	}
	if w, err := tr.Uint64(0); w != 0 || err != api.ErrExhausted {
		t.Errorf("%X, %v", w, err)
	}
}

func TestNew(t *testing.T) { // P20.1: of each kind: one stream, behind 0, from 0 to Limit; of a bare one none, and Next 0
	for _, kind := range kinds() {
		for _, of := range seeds() {
			b := newBoth(t, kind, of)
			b.same("New")
			b.words("New")
			if l := b.tr.Spans(); !slices.Equal(l, []span.Span{all(kind)}) || !slices.Equal(b.tr.Handles(), []int{0}) || b.tr.Next() != 1 {
				t.Errorf("kind %d: %v, %v, %d", kind, l, b.tr.Handles(), b.tr.Next())
			}
			e := bare(t, kind, of)
			e.same("Bare")
			if len(e.tr.Spans()) != 0 || len(e.tr.Handles()) != 0 || e.tr.Next() != 0 {
				t.Errorf("kind %d: bare: %v, %v, %d", kind, e.tr.Spans(), e.tr.Handles(), e.tr.Next())
			}
		}
	}
}

func TestNoKinds(t *testing.T) { // P20.1: ErrKind, and no tree; of some the lowest bits are those of a kind
	l := []int{0, 5, 6, 7, 8, -1, -2, -3, -4, -5, 127, 128, 255, 256, math.MinInt, math.MinInt + 1, math.MaxInt - 1, math.MaxInt}
	for _, k := range kinds() {
		l = append(l, k+256, k+1<<16, k+1<<32, k-256, k-1<<32, k+math.MinInt)
	}
	for _, kind := range l {
		for _, of := range seeds() {
			if tr, err := New(kind, of); tr != nil || err != api.ErrKind {
				t.Errorf("New(%d, %X): %v, %v", kind, of, tr, err)
			}
			if tr, err := Bare(kind, of); tr != nil || err != api.ErrKind {
				t.Errorf("Bare(%d, %X): %v, %v", kind, of, tr, err)
			}
		}
	}
}

func TestOfABareOne(t *testing.T) { // P20.1 to P20.3: no handle has a stream, so nothing is told of any, and nothing changes
	for _, kind := range kinds() {
		b := bare(t, kind, 3)
		for _, h := range append(numbers(), near(0)...) {
			b.split(h)
			b.drop(h)
			b.word(h)
			b.fill(h, 1)
			b.bytes(h, 1)
			b.skip(h, wide.Of(1))
			b.bounded(h, 6)
		}
		b.lay(0, all(kind))
		b.word(0)
		n := newBoth(t, kind, 3)
		n.word(0)
		if !slices.Equal(n.tr.Spans(), b.tr.Spans()) || n.tr.Next() != b.tr.Next() {
			t.Errorf("kind %d: a bare one, laid, isn't as a new one: %v, %v", kind, b.tr.Spans(), n.tr.Spans())
		}
	}
}

func TestTreesAreApart(t *testing.T) { // P20.1, R5: a tree has nothing of another one
	for _, kind := range kinds() {
		a, b, e := newBoth(t, kind, 8), newBoth(t, kind, 8), bare(t, kind, 8)
		a.fill(0, 3)
		a.full()
		a.drop(7)
		b.same("another one")
		b.word(0)
		e.same("a bare one")
		newBoth(t, kind, 8).same("one made behind them")
		a.drop(0)
		b.word(0)
		a.same("the first one")
	}
}

func TestStream(t *testing.T) { // P20.1: of those that have one, that were dropped, that aren't given yet, that is next, of numbers that are none
	for _, kind := range kinds() {
		b := newBoth(t, kind, 77)
		b.fill(0, 3)
		b.split(0)
		b.split(1)
		b.drop(1)
		b.lay(10, long(b.m.spans[2].From, 0))
		b.goes(20)
		for _, c := range []struct {
			h   int
			err api.Errno
		}{
			{0, 0}, {1, api.ErrNone}, {2, 0}, {3, api.ErrNone}, {9, api.ErrNone}, {10, 0}, {11, api.ErrNone}, {19, api.ErrNone}, {20, api.ErrNone}, {21, api.ErrNone}, {-1, api.ErrNone},
			{1 << 32, api.ErrNone}, {1<<32 + 2, api.ErrNone}, {math.MinInt, api.ErrNone}, {math.MaxInt, api.ErrNone}, {most, api.ErrNone}, {most - 1, api.ErrNone},
		} {
			for range 2 {
				if s, err := b.tr.Stream(c.h); err != c.err || (s == nil) != (err != api.OK) {
					t.Errorf("kind %d: Stream(%d): %v, %v, not %v", kind, c.h, s, err, c.err)
				}
			}
		}
	}
}

func TestStreamIsACopy(t *testing.T) { // P20.1, R3: what is done with it changes nothing of the tree, nor the other way round
	for _, kind := range kinds() {
		b := newBoth(t, kind, 13)
		b.split(0)
		for _, h := range []int{0, 1} {
			b.fill(h, 2)
			s := b.stream(h, "ahead")
			_, _ = s.Uint64()
			_, _ = s.Fill(20)
			_, _ = s.Bytes(30)
			b.same("behind words of a copy")
			_ = s.Skip(wide.Of(1 << 40))
			_ = s.End(more(s.Allotment().From, 2))
			_, _ = s.Fill(2)
			b.same("behind the end of a copy")
			b.words("behind the end of a copy")
			c := b.stream(h, "again")
			was := c.Allotment()
			b.fill(h, 3)
			b.split(h)
			b.skip(h, wide.Of(100))
			b.drop(h)
			if c.Allotment() != was {
				t.Errorf("kind %d: a copy is changed: %v, not %v", kind, c.Allotment(), was)
			}
			want, _ := seed.Some(kind, 13, was.From, 12)
			if l, err := c.Fill(12); !slices.Equal(l, want) || err != api.OK {
				t.Errorf("kind %d: words of a copy: %X, %v, not %X", kind, l, err, want)
			}
		}
	}
}

// orders calls do with each order of some numbers.
func orders(of []int, do func([]int)) {
	row := make([]int, 0, len(of))
	var on func()
	on = func() {
		if len(row) == len(of) {
			do(row)
			return
		}
		for _, n := range of {
			if !slices.Contains(row, n) {
				row = append(row, n)
				on()
				row = row[:len(row)-1]
			}
		}
	}
	on()
}

func TestDropsInAnyOrder(t *testing.T) { // P20.1, P20.2: Spans in the handles' order behind splits and drops in any order
	for _, kind := range []int{api.Mix, api.Philox} {
		orders([]int{0, 1, 2, 3}, func(row []int) {
			b := newBoth(t, kind, 4)
			b.split(0)
			b.split(0)
			b.split(1)
			for i, h := range row {
				b.drop(h)
				if i < 3 {
					if new := b.split(row[i+1]); new != 4+i {
						t.Errorf("drops %v: the new handle is %d, not %d", row, new, 4+i)
					}
				}
			}
			b.words("behind drops")
			if b.tr.Next() != 7 || !slices.Equal(b.tr.Handles(), []int{4, 5, 6}) {
				t.Errorf("drops %v: %v, Next %d", row, b.tr.Handles(), b.tr.Next())
			}
		})
	}
}

// froms tells places of a kind that allotments may be from: at its edges, and across 2^64 where it has that.
func froms(kind int) []wide.U128 {
	l := []wide.U128{{}, wide.Of(1), wide.Of(1<<32 - 2), less(limit(kind), 1<<20)}
	if kind != api.Mix {
		l = append(l, wide.Of(top-5), wide.U128{Hi: 6, Lo: top - 2})
	}
	return l
}

func TestSplit(t *testing.T) { // P20.2: of even lengths and odd ones, with words used and none
	for _, kind := range kinds() {
		for _, from := range froms(kind) {
			for _, n := range []uint64{2, 3, 4, 5, 8, 9, 16, 17, 31, 1000, 1001} {
				for _, used := range []uint64{0, 1, 2, 3, 9} {
					if n < used {
						continue
					}
					b := bare(t, kind, 31, long(from, n))
					for range used {
						b.word(0)
					}
					if new := b.split(0); n-used >= 2 {
						up := (n - used + 1) / 2
						at := more(from, used+up)
						if b.tr.Spans()[0] != long(more(from, used), up) || b.tr.Spans()[1] != between(at, more(from, n)) || new != 1 {
							t.Errorf("kind %d, from %v: %d places, %d used: %v", kind, from, n, used, b.tr.Spans())
						}
					}
					b.words("behind Split")
				}
			}
		}
	}
}

func TestSplitAll(t *testing.T) { // P20.2: all that a kind has, with an odd number used, too; halves of halves
	for _, kind := range kinds() {
		for used := range 4 {
			b := newBoth(t, kind, 90)
			for range used {
				b.word(0)
			}
			for _, h := range []int{0, 0, 1, 1, 2, 3, 0} {
				b.split(h)
				b.bytes(h, 17)
			}
			b.words("behind splits")
		}
	}
}

func TestSplitDown(t *testing.T) { // P20.2, P20.5: a short one down to single places, and all of their words are those of the whole
	for _, kind := range kinds() {
		for n := range 17 {
			from := more(wide.Of(7), uint64(n))
			b := bare(t, kind, 19, long(from, uint64(n)))
			for range n {
				for _, h := range b.m.handles() {
					b.split(h)
				}
			}
			if l := b.m.handles(); len(l) != max(n, 1) {
				t.Fatalf("kind %d: of %d places %v", kind, n, l)
			}
			want, _ := seed.Some(kind, 19, from, n)
			words := map[wide.U128]uint64{}
			for i, h := range b.tr.Handles() {
				place := b.tr.Spans()[i].From
				w, err := b.tr.Uint64(h)
				_, _ = b.m.word(h)
				if n > 0 && err != api.OK || n == 0 && err != api.ErrExhausted {
					t.Errorf("kind %d: of %d places: Uint64(%d): %v", kind, n, h, err)
				}
				words[place] = w
				b.word(h)
				b.split(h)
			}
			for i, w := range want {
				if got, ok := words[more(from, uint64(i))]; got != w || !ok {
					t.Errorf("kind %d: of %d places the word %d is %X, %v, not %X", kind, n, i, got, ok, w)
				}
			}
		}
	}
}

func TestSplitRefuses(t *testing.T) { // P20.2: ErrNone ahead of ErrFull ahead of ErrOver ahead of ErrShort; where 2 are left, 1, and none
	for _, kind := range kinds() {
		for _, isFull := range []bool{true, false} {
			for _, next := range []int{0, most - 1, most} {
				b := bare(t, kind, 40, sp(0, 0), sp(0, 1), sp(1, 3), sp(3, 1<<20))
				if isFull {
					b.fullBy(3)
				}
				b.goes(max(next, b.m.next))
				for _, c := range []struct {
					h    int
					last api.Errno
				}{{0, api.ErrShort}, {1, api.ErrShort}, {2, api.OK}, {3, api.OK}, {-1, api.ErrNone}, {most, api.ErrNone}, {b.m.next, api.ErrNone}, {b.m.next - 1, b.m.none(b.m.next - 1)}} {
					want := c.last
					switch {
					case want == api.ErrNone:
					case isFull:
						want = api.ErrFull
					case next == most:
						want = api.ErrOver
					}
					d := b.copied()
					h, err := d.tr.Split(c.h)
					if err != want || err != api.OK && h != 0 {
						t.Errorf("kind %d, full %v, Next %d: Split(%d): %d, %v, not %v", kind, isFull, b.m.next, c.h, h, err, want)
					}
					if err != api.OK {
						d.same("refused")
					}
					b.copied().split(c.h)
				}
			}
		}
	}
}

func TestSplitAtTheLastHandle(t *testing.T) { // P20.2: where Next is 2^31 - 2, and then 2^31 - 1, behind a drop, too
	for _, kind := range kinds() {
		b := newBoth(t, kind, 41)
		b.goes(most - 1)
		if h := b.split(0); h != 1<<31-2 {
			t.Errorf("kind %d: the last handle is %d", kind, h)
		}
		b.split(0)
		b.split(most - 1)
		b.word(most - 1)
		b.drop(0)
		b.split(most - 1)
		b.drop(most - 1)
		b.split(most - 1)
		if b.tr.Next() != 1<<31-1 || len(b.tr.Handles()) != 0 {
			t.Errorf("kind %d: %v, Next %d", kind, b.tr.Handles(), b.tr.Next())
		}
	}
}

func TestSplitToTheFull(t *testing.T) { // P20.2: up to MostHandles; behind a drop there is room for one again, whose handle is a new one
	for _, kind := range kinds() {
		b := newBoth(t, kind, 42)
		for want := 1; want < 16; want++ {
			if h := b.split(want / 2); h != want {
				t.Errorf("kind %d: %d, not %d", kind, h, want)
			}
		}
		for i, dropped := range []int{7, 0, 15, 16, 18} {
			b.split(3)
			b.split(dropped)
			b.drop(dropped)
			b.split(dropped)
			if h := b.split(3); h != 16+i {
				t.Errorf("kind %d: %d, not %d", kind, h, 16+i)
			}
		}
		b.words("full")
	}
}

func TestDrop(t *testing.T) { // P20.2: just once; of one never given, of numbers that are none: ErrNone; the others go on
	for _, kind := range kinds() {
		b := newBoth(t, kind, 43)
		for h := range 5 {
			b.split(h)
		}
		b.goes(10)
		b.split(2)
		for _, c := range []struct {
			h   int
			err api.Errno
		}{
			{2, 0}, {2, api.ErrNone}, {0, 0}, {0, api.ErrNone}, {-1, api.ErrNone}, {6, api.ErrNone}, {9, api.ErrNone}, {11, api.ErrNone}, {10, 0}, {10, api.ErrNone},
			{math.MinInt, api.ErrNone}, {math.MaxInt, api.ErrNone}, {1 << 32, api.ErrNone}, {1<<32 + 1, api.ErrNone}, {5, 0}, {5, api.ErrNone}, {1, 0}, {3, 0}, {4, 0}, {4, api.ErrNone},
		} {
			if err := b.tr.Drop(c.h); err != c.err {
				t.Errorf("kind %d: Drop(%d): %v, not %v", kind, c.h, err, c.err)
			}
			_ = b.m.drop(c.h)
			b.same("behind Drop")
			for _, h := range []int{1, 3, 4, c.h} {
				b.word(h)
			}
		}
		if b.tr.Next() != 11 || len(b.tr.Spans()) != 0 {
			t.Errorf("kind %d: Next %d, %v", kind, b.tr.Next(), b.tr.Spans())
		}
	}
}

// counts tells what may be asked for, what may not, and what is at the edges of both.
func counts() []int {
	return []int{math.MinInt, -1 << 32, -257, -256, -9, -8, -2, -1, 0, 1, 2, 7, 8, 9, 15, 16, 17, 24, 25, 32, 33, 63, 64, 65, 255, 256, 257, 258, 2048, 1 << 16, 1<<32 + 3, math.MaxInt - 6, math.MaxInt}
}

func TestWordsOfStreams(t *testing.T) { // P20.3: as the stream's: with few left and many, n negative, 0, and too great; of handles without a stream ErrNone ahead of all
	for _, kind := range kinds() {
		for _, left := range []uint64{0, 1, 2, 3, 4, 8, 31, 32, 33, 255, 256, 257, 600} {
			b := bare(t, kind, 50, sp(0, 5), sp(5, 5+left), sp(5+left, 1000))
			b.drop(0)
			for _, h := range []int{1, 0, 3, -1} {
				for _, n := range counts() {
					b.copied().fill(h, n)
					b.copied().bytes(h, n)
				}
				for range 3 {
					b.copied().word(h)
				}
			}
			for n := range min(left, 12) {
				b.word(1)
				if n%4 == 0 {
					b.word(2)
				}
			}
			b.words("behind words")
			for _, n := range []int{-1, 257, 256, 5, 0, 1, 9, 32} {
				b.fill(1, n)
				b.bytes(1, n)
			}
		}
	}
}

func TestAtTheEnd(t *testing.T) { // P20.3: at a stream's end and beyond it, and at Limit: ErrExhausted, again and again; 0 words, bytes and steps are still told
	for _, kind := range kinds() {
		for _, a := range []span.Span{sp(40, 43), between(less(limit(kind), 3), limit(kind))} {
			b := bare(t, kind, 51, a, sp(43, 60))
			for range 3 {
				b.word(0)
			}
			for range 2 {
				b.word(0)
				b.fill(0, 1)
				b.fill(0, 0)
				b.bytes(0, 1)
				b.bytes(0, 0)
				b.skip(0, wide.Of(1))
				b.skip(0, wide.Of(0))
				b.bounded(0, 1)
				b.bounded(0, 0)
				b.split(0)
				b.word(1)
			}
			b.drop(0)
			b.word(0)
		}
	}
}

func TestSkip(t *testing.T) { // P20.3: by none, few, all that is left, one more, and up to the greatest number
	for _, kind := range kinds() {
		b := newBoth(t, kind, 52)
		b.word(0)
		b.split(0)
		b.split(1)
		b.drop(1)
		for _, h := range []int{0, 2, 1, 3, -1} {
			left := new(big.Int)
			if s, ok := b.m.spans[h]; ok {
				left = length(s)
			}
			for _, n := range []wide.U128{{}, wide.Of(1), wide.Of(8), small(left), more(small(left), 1), {Hi: 1}, {Hi: top}, limit(kind), less(greatest, 1), greatest} {
				c := b.copied()
				c.skip(h, n)
				c.words("behind Skip")
			}
			if left.Sign() > 0 {
				b.skip(h, less(small(left), 3))
				b.fill(h, 2)
				b.skip(h, wide.Of(2))
				b.skip(h, wide.Of(1))
				b.skip(h, wide.Of(1))
			}
		}
	}
}

// bounds tells 0, 1, small ones, great ones, the greatest one.
func bounds() []uint64 {
	return []uint64{0, 1, 2, 3, 6, 10, 256, 1<<32 - 1, 1 << 32, 3<<61 + 1, 1<<63 - 1, 1 << 63, 1<<63 + 1, top / 3 * 2, top - 1, top}
}

func TestBounded(t *testing.T) { // P20.3: by each bound; ErrNone ahead of ErrZero; ErrZero where nothing is left, too, and nothing changes
	for _, kind := range kinds() {
		b := newBoth(t, kind, 53)
		b.split(0)
		b.split(1)
		b.drop(1)
		for range 12 {
			for _, by := range bounds() {
				b.bounded(0, by)
				b.bounded(2, by)
			}
		}
		for _, h := range []int{1, 3, -1, math.MaxInt} {
			for _, by := range bounds() {
				if err := b.bounded(h, by); err != api.ErrNone {
					t.Errorf("kind %d: Bounded(%d, %d): %v", kind, h, by, err)
				}
			}
		}
		e := bare(t, kind, 53, sp(4, 4), sp(4, 9))
		for _, by := range bounds() {
			want := api.ErrExhausted
			if by == 0 {
				want = api.ErrZero
			}
			if err := e.bounded(0, by); err != want {
				t.Errorf("kind %d: by %d of none: %v, not %v", kind, by, err, want)
			}
		}
	}
}

func TestBoundedUsesUpItsOwn(t *testing.T) { // P20.3: where no word that is left is taken: ErrExhausted, and nothing is left; the streams beside it are as they were
	for _, kind := range kinds() {
		seen := map[uint64]int{}
		for _, by := range []uint64{1<<63 + 1, 1<<62 + 1} {
			_, refused := bits.Div64(1, 0, by)
			words, _ := seed.Some(kind, 54, wide.Of(100), 250)
			run := uint64(0)
			for i, w := range words {
				if _, lo := bits.Mul64(w, by); lo >= refused {
					run = 0
					continue
				}
				run++
				end := 100 + uint64(i) + 1
				b := bare(t, kind, 54, sp(20, end-run), sp(end-run, end), sp(end, 900))
				if err := b.bounded(1, by); err != api.ErrExhausted || b.tr.Spans()[1] != sp(end, end) {
					t.Errorf("kind %d: by %d, of %d to %d: %v, %v", kind, by, end-run, end, err, b.tr.Spans())
				}
				seen[run]++
				if i%16 == 0 {
					b.bounded(1, by)
					b.bounded(1, 0)
					b.split(1)
					b.words("behind it")
					b.bounded(0, by)
					b.bounded(2, by)
				}
			}
		}
		if seen[1] < 20 || seen[2] < 5 || seen[3] == 0 {
			t.Errorf("kind %d: words that aren't taken: %v", kind, seen)
		}
	}
}

func TestLay(t *testing.T) { // P20.4: spans that may not be, that end at Limit and above it, that meet another one, that touch one, that have no places
	for _, kind := range kinds() {
		end := limit(kind)
		for _, c := range []struct {
			s   span.Span
			err api.Errno
		}{
			{sp(0, 10), 0}, {sp(0, 0), 0}, {sp(9, 10), 0}, {sp(0, 11), api.ErrArg}, {sp(10, 11), api.ErrArg}, {sp(10, 20), api.ErrArg}, {sp(12, 15), api.ErrArg}, {sp(5, 25), api.ErrArg},
			{sp(19, 20), api.ErrArg}, {sp(19, 21), api.ErrArg}, {sp(20, 21), 0}, {sp(20, 30), 0}, {sp(22, 28), 0}, {sp(20, 31), api.ErrArg}, {sp(30, 31), api.ErrArg}, {sp(0, 40), api.ErrArg}, {sp(40, 50), 0}, {sp(39, 41), api.ErrArg},
			{sp(10, 10), 0}, {sp(15, 15), 0}, {sp(20, 20), 0}, {sp(60, 60), 0}, {sp(30, 30), 0}, {sp(61, 62), 0}, {sp(55, 65), 0},
			{sp(1, 0), api.ErrArg}, {sp(25, 24), api.ErrArg}, {sp(15, 12), api.ErrArg}, {sp(70, 60), api.ErrArg}, {between(end, less(end, 1)), api.ErrArg}, {between(greatest, wide.U128{}), api.ErrArg},
			{between(wide.Of(100), end), 0}, {between(less(end, 1), end), 0}, {between(end, end), 0}, {between(wide.Of(100), less(end, 1)), 0},
			{between(wide.Of(100), more(end, 1)), api.ErrArg}, {between(end, more(end, 1)), api.ErrArg}, {between(more(end, 1), more(end, 1)), api.ErrArg}, {between(more(end, 5), more(end, 9)), api.ErrArg},
			{between(wide.Of(100), greatest), api.ErrArg}, {between(greatest, greatest), api.ErrArg}, {between(wide.Of(0), end), api.ErrArg}, {between(wide.Of(39), end), api.ErrArg}, {between(wide.Of(40), end), 0},
		} {
			// The third one has no places, so none meets it.
			b := bare(t, kind, 60, sp(10, 20), sp(30, 40), sp(60, 60))
			if err := b.tr.Lay(5, c.s); err != c.err {
				t.Errorf("kind %d: Lay(5, %v): %v, not %v", kind, c.s, err, c.err)
			}
			b = bare(t, kind, 60, sp(10, 20), sp(30, 40), sp(60, 60))
			if b.lay(5, c.s) == api.OK {
				b.words("laid")
				b.word(5)
				b.split(5)
				b.words("laid and split")
			}
		}
	}
}

func TestLayAcrossWords(t *testing.T) { // P20.4: where Limit is 2^127: spans whose numbers differ in their high words alone, or in their low ones
	for _, kind := range kinds() {
		at := func(hi, lo uint64) wide.U128 { return wide.U128{Hi: hi, Lo: lo} }
		laid := []span.Span{between(at(0, 0), at(0, 5))}
		if kind != api.Mix {
			laid = append(laid, between(at(3, 7), at(5, 2)))
		}
		for _, s := range []span.Span{
			between(at(3, 0), at(3, 7)), between(at(3, 0), at(3, 8)), between(at(2, 9), at(3, 6)), between(at(4, 0), at(4, 0)), between(at(4, 0), at(4, 1)), between(at(5, 1), at(5, 2)), between(at(5, 2), at(5, 2)), between(at(5, 2), at(9, 0)),
			between(at(1, 0), at(1, 9)), between(at(5, 9), at(5, 3)), between(at(6, 0), at(5, top)), between(at(0, top), at(1, 0)), between(at(1<<62, 0), at(1<<63, 0)), between(at(1<<62, 0), at(1<<63, 1)), between(at(1<<62, 0), at(1<<63+1, 0)),
			between(at(0, 1<<62), at(0, 1<<63)), between(at(0, 1<<62), at(0, 1<<63+1)), between(at(0, 1<<62), at(1, 5)), between(at(0, 5), at(0, 6)), between(at(0, 4), at(0, 6)),
		} {
			b := bare(t, kind, 61, laid...)
			if b.lay(2, s) == api.OK {
				b.words("laid")
			}
		}
	}
}

func TestLayHandles(t *testing.T) { // P20.4: below Next, at Next, beyond it, 2^31 - 2, 2^31 - 1; what is wrong with the span comes first; of a full tree ErrFull
	for _, kind := range kinds() {
		for _, isFull := range []bool{false, true} {
			for _, h := range append([]int{0, 1, 2, 3, 4, 5, 6, 15, 16, 17, 20, 21, 22, 100, most - 2, most - 1, most, most + 1, 1 << 32, 1<<32 + 30, math.MaxInt}, numbers()...) {
				b := bare(t, kind, 62, sp(4000, 1<<20), sp(2000, 2003), sp(2003, 2003))
				if isFull {
					b.fullBy(0)
				}
				b.goes(20)
				if !isFull {
					b.drop(1)
				}
				for _, s := range []span.Span{sp(4000, 4001), sp(5, 4), long(limit(kind), 1), between(less(limit(kind), 1), greatest)} {
					if err := b.tr.Lay(h, s); err != api.ErrArg {
						t.Errorf("kind %d, full %v: Lay(%d, %v): %v, not ErrArg", kind, isFull, h, s, err)
					}
					b.same("refused")
				}
				want := api.OK
				switch {
				case isFull:
					want = api.ErrFull
				case h < 20, h >= most:
					want = api.ErrArg
				}
				c := b.copied()
				if err := b.tr.Lay(h, sp(3000, 3009)); err != want {
					t.Errorf("kind %d, full %v: Lay(%d): %v, not %v", kind, isFull, h, err, want)
				}
				c.lay(h, sp(3000, 3009))
				c.lay(h, sp(3009, 3010))
				c.lay(h+1, sp(3009, 3010))
				c.words("laid")
			}
		}
	}
}

func TestLayBehindADrop(t *testing.T) { // P20.4: what was dropped, or used, meets nothing; its handle isn't laid again
	for _, kind := range kinds() {
		b := newBoth(t, kind, 63)
		b.split(0)
		half := b.m.spans[1]
		b.lay(2, half)
		b.drop(1)
		b.lay(1, half)
		b.lay(2, half)
		b.lay(3, half)
		b.words("laid as it was")
		b.word(2)
		b.lay(3, long(half.From, 2))
		b.lay(3, long(half.From, 1))
		b.words("laid where a word was used")
	}
}

func TestGoes(t *testing.T) { // P20.4: below Next, Next itself, beyond it, 2^31 - 1, above it
	for _, kind := range kinds() {
		for _, next := range append(append(numbers(), near(0, 3, 10, most)...), 1<<32+11) {
			b := bare(t, kind, 64, sp(0, 4), sp(5, 9), sp(10, 30))
			b.drop(1)
			b.copied().goes(next)
			b.goes(10)
			want := api.OK
			if next < 10 || next > most {
				want = api.ErrArg
			}
			if err := b.copied().tr.Goes(next); err != want {
				t.Errorf("kind %d: Goes(%d): %v, not %v", kind, next, err, want)
			}
			b.goes(next)
			b.split(2)
			b.goes(9)
		}
	}
}

func TestCopy(t *testing.T) { // P20.1, R5: what is done with a copy changes nothing of the tree, nor the other way round; it goes on as the tree would
	for _, kind := range kinds() {
		b := newBoth(t, kind, 70)
		b.word(0)
		b.split(0)
		b.fill(1, 9)
		b.goes(5)
		c := b.copied()
		c.same("a copy")
		d := c.copied()
		c.fill(0, 12)
		c.split(1)
		c.skip(1, wide.Of(77))
		c.drop(0)
		c.goes(9)
		c.lay(12, sp(3, 9))
		b.same("behind changes of a copy")
		b.words("behind changes of a copy")
		d.same("behind changes of what it is a copy of")
		b.bytes(0, 30)
		b.split(0)
		b.drop(1)
		b.bounded(0, 6)
		c.same("behind changes of the tree")
		c.words("behind changes of the tree")
		d.words("behind changes of both")
		d.full()
		b.same("behind a full copy")
		e := bare(t, kind, 70).copied()
		e.same("a copy of a bare one")
		e.lay(3, sp(0, 3))
	}
}

// walk asks both for one of all that can be asked, by random numbers.
func (b *both) walk(r *rand.Rand) {
	b.t.Helper()
	h := r.IntN(b.m.next+2) - 1
	if l := b.m.handles(); len(l) > 0 && r.IntN(8) > 0 {
		h = l[r.IntN(len(l))]
	}
	switch r.IntN(14) {
	case 0, 1, 2, 3:
		b.split(h)
	case 4:
		b.drop(h)
	case 5, 6:
		b.word(h)
	case 7:
		b.fill(h, r.IntN(12)-1)
	case 8:
		b.bytes(h, r.IntN(40)-1)
	case 9:
		b.skip(h, wide.Of(r.Uint64N(9)))
	case 10:
		b.skip(h, wide.Right(wide.U128{Hi: r.Uint64(), Lo: r.Uint64()}, r.IntN(129)))
	case 11, 12:
		// Few bounds, so that a long allotment isn't gone through for long.
		b.bounded(h, bounds()[r.IntN(len(bounds()))])
	case 13:
		b.goes(b.m.next + r.IntN(3) - 1)
	}
}

func TestWalks(t *testing.T) { // P20.1 to P20.5, R4: whatever is done, the tree is as the model; a copy of which the same is asked tells the same
	for _, kind := range kinds() {
		for round := range uint64(6) {
			b := newBoth(t, kind, round*round)
			if round%2 == 1 {
				b = bare(t, kind, round, sp(5, 90), sp(200, 201), sp(90, 200))
			}
			r := rand.New(rand.NewPCG(20, round))
			for step := range uint64(120) {
				if step%20 == 0 {
					c := b.copied()
					one, other := rand.New(rand.NewPCG(round, step)), rand.New(rand.NewPCG(round, step))
					was := b.copied()
					for range 10 {
						c.walk(one)
					}
					was.same("apart from a copy")
					b.same("apart from a copy")
					for range 10 {
						was.walk(other)
					}
					if !slices.Equal(c.tr.Spans(), was.tr.Spans()) || c.tr.Next() != was.tr.Next() {
						t.Errorf("kind %d: the same, asked of two: %v, %v", kind, c.tr.Spans(), was.tr.Spans())
					}
					b.words("on the way")
				}
				b.walk(r)
			}
			b.words("at the end")
		}
	}
}

// passed keeps what streams passed, and what was dropped with them.
type passed struct {
	used, gone []span.Span
}

// on does one thing with a tree, and keeps by its spans ahead and behind what was passed.
func (p *passed) on(tr *Tree, r *rand.Rand) {
	l := tr.Handles()
	if len(l) == 0 {
		return
	}
	i := r.IntN(len(l))
	h, was := l[i], tr.Spans()[i]
	switch r.IntN(12) {
	case 0, 1, 2:
		_, _ = tr.Split(h)
	case 3:
		if r.IntN(4) == 0 && tr.Drop(h) == api.OK {
			p.gone = append(p.gone, was)
			return
		}
	case 4, 5:
		_, _ = tr.Uint64(h)
	case 6:
		_, _ = tr.Fill(h, r.IntN(9))
	case 7:
		_, _ = tr.Bytes(h, r.IntN(30))
	case 8:
		_ = tr.Skip(h, wide.Right(span.Len(was), r.IntN(30)))
	case 9:
		_, _ = tr.Bounded(h, 1<<63+1)
	case 10:
		// That meets the stream's own; one with no places meets none, but may stand behind places that were used.
		if span.Len(was) != (wide.U128{}) {
			_ = tr.Lay(tr.Next(), long(was.From, 2))
		}
	case 11:
		// What was dropped is laid as it was.
		if n := len(p.gone); n > 0 && tr.Lay(tr.Next()+1, p.gone[n-1]) == api.OK {
			p.gone = p.gone[:n-1]
		}
	}
	p.used = append(p.used, between(was.From, tr.Spans()[i].From))
}

func TestApart(t *testing.T) { // P20.5, W3: no two allotments meet, all lie below Limit, no place is used twice, and with what was dropped they have all that wasn't used
	for _, kind := range kinds() {
		for round := range uint64(20) {
			tr, _ := New(kind, round)
			r := rand.New(rand.NewPCG(round, 5))
			p := &passed{}
			for range 60 {
				p.on(tr, r)
				spans := tr.Spans()
				for _, s := range spans {
					if great(s.From).Cmp(great(s.To)) > 0 || great(s.To).Cmp(great(limit(kind))) > 0 {
						t.Fatalf("kind %d: %v is above Limit, or may not be", kind, s)
					}
				}
				if !span.Apart(spans) {
					t.Fatalf("kind %d: allotments meet: %v", kind, spans)
				}
				whole := slices.Concat(spans, p.used, p.gone)
				if !span.Apart(whole) || span.Cover(whole) != limit(kind) {
					t.Fatalf("kind %d: %v, used %v, dropped %v: %v are had", kind, spans, p.used, p.gone, span.Cover(whole))
				}
			}
		}
	}
}

func TestNoPlaceIsUsedTwice(t *testing.T) { // P20.5: of a short allotment each word is told just once, by one stream, and all of them are told in the end
	for _, kind := range kinds() {
		for round := range uint64(25) {
			const places = 60
			tr, _ := Bare(kind, round)
			if err := tr.Lay(0, sp(30, 30+places)); err != api.OK {
				t.Fatal(err)
			}
			want, _ := seed.Some(kind, round, wide.Of(30), places)
			times := map[uint64]int{}
			r := rand.New(rand.NewPCG(round, 6))
			for range 80 {
				l := tr.Handles()
				h := l[r.IntN(len(l))]
				if r.IntN(3) > 0 {
					_, _ = tr.Split(h)
				}
				words, _ := tr.Fill(h, r.IntN(3))
				for _, w := range words {
					times[w]++
				}
			}
			for _, h := range tr.Handles() {
				for w, err := tr.Uint64(h); err == api.OK; w, err = tr.Uint64(h) {
					times[w]++
				}
			}
			for i, w := range want {
				if times[w] != 1 {
					t.Errorf("kind %d: the word at %d is told %d times", kind, 30+i, times[w])
				}
			}
			if len(times) != places {
				t.Errorf("kind %d: %d words are told", kind, len(times))
			}
		}
	}
}

func TestAnswersAreNoPart(t *testing.T) { // R3: lists that were told can be written over, and grown; nothing of the tree changes
	for _, kind := range kinds() {
		b := newBoth(t, kind, 80)
		for range 2 {
			b.full()
			handles, spans := b.tr.Handles(), b.tr.Spans()
			for i := range handles {
				handles[i], spans[i] = -1, span.Span{}
			}
			_, _ = append(handles, 7), append(spans, sp(1, 2))
			b.same("lists written over")
			_, _ = b.m.fill(1, 20)
			words, _ := b.tr.Fill(1, 20)
			_, _ = b.m.bytes(1, 20)
			bytes, _ := b.tr.Bytes(1, 20)
			for i := range 20 {
				words[i], bytes[i] = 0, 0
			}
			b.words("words written over")
			b.drop(3)
			b.drop(b.m.next - 1)
			_, _ = append(b.tr.Handles(), 7), append(b.tr.Spans(), sp(1, 2))
			b.same("lists grown")
		}
	}
}

func TestHasNoMore(t *testing.T) { // P20.5: a tree has just the chapter's methods, so the table's others, by which allotments could meet, can't be called from outside
	want := []string{"Bounded", "Bytes", "Copy", "Drop", "Fill", "Goes", "Handles", "Kind", "Lay", "Next", "Seed", "Skip", "Spans", "Split", "Stream", "Uint64"}
	got := []string{}
	of := reflect.TypeFor[*Tree]()
	for i := range of.NumMethod() {
		got = append(got, of.Method(i).Name)
	}
	if !slices.Equal(got, want) {
		t.Errorf("methods %v, not %v", got, want)
	}
	for i := range of.Elem().NumField() {
		if f := of.Elem().Field(i); f.IsExported() {
			t.Errorf("the field %s is exported", f.Name)
		}
	}
}
