package cursor

import (
	"math"
	"math/big"
	"math/rand/v2"
	"slices"
	"testing"

	"knucklebone/api"
	"knucklebone/gen"
	"knucklebone/half"
	"knucklebone/pcg"
	"knucklebone/philox"
	"knucklebone/seed"
	"knucklebone/wide"
	"knucklebone/xosh"
)

const top = math.MaxUint64

// most is 2^128 - 1, middle is 2^127.
var (
	most   = wide.U128{Hi: top, Lo: top}
	middle = wide.U128{Hi: 1 << 63}
)

// kinds tells all four.
func kinds() []int { return []int{api.Mix, api.Xosh, api.Pcg, api.Philox} }

// noKinds tells numbers that are no kind, some of which have a kind's lowest bits.
func noKinds() []int {
	l := []int{math.MinInt, math.MinInt + 1, -1 << 32, -256, -255, -4, -3, -2, -1, 0, 5, 6, 7, 8, 127, 128, 255, 256, math.MaxInt - 1, math.MaxInt}
	for _, k := range kinds() {
		l = append(l, k+256, k+1<<16, k+1<<32, k-256, k-1<<32, k+math.MinInt)
	}
	return l
}

// seeds tells seeds at edges, and others.
func seeds() []uint64 {
	return []uint64{0, 1, 7, 1234567, 1<<63 - 1, 1 << 63, top, 0x0123456789ABCDEF, 0x61C8864680B583EB}
}

// limit tells of how many steps the states of a kind are kept apart, by chapter 13.
func limit(kind int) wide.U128 {
	if kind == api.Mix {
		return wide.Of(1 << 63)
	}
	return middle
}

// less tells a number less another one.
func less(n wide.U128, by uint64) wide.U128 {
	n, _ = wide.Sub(n, wide.Of(by))
	return n
}

// more tells a number and another one.
func more(n wide.U128, by uint64) wide.U128 {
	n, _ = wide.Add(n, wide.Of(by))
	return n
}

// places tells places of a kind: at its edges, about what a block has, and random ones.
func places(kind int) []wide.U128 {
	l := []wide.U128{}
	for i := range uint64(2*api.Block + 2) {
		l = append(l, wide.Of(i), less(limit(kind), i))
	}
	r := rand.New(rand.NewPCG(18, 19))
	for i := range 128 {
		one := wide.Left(wide.Of(1), i)
		l = append(l, one, less(one, 1), less(one, 4), more(one, 5), wide.Right(wide.U128{Hi: r.Uint64(), Lo: r.Uint64()}, i))
	}
	l = slices.DeleteFunc(l, func(at wide.U128) bool { return wide.Cmp(at, limit(kind)) > 0 })
	slices.SortFunc(l, wide.Cmp)
	return slices.Compact(l)
}

// somePlaces tells the places at the edges of a kind, and each k-th of the others.
func somePlaces(kind, k int) []wide.U128 {
	few := []wide.U128{}
	for i, at := range places(kind) {
		left, _ := wide.Sub(limit(kind), at)
		if wide.Cmp(at, wide.Of(2)) <= 0 || wide.Cmp(left, wide.Of(api.Block+1)) <= 0 || i%k == 0 {
			few = append(few, at)
		}
	}
	return few
}

// split tells SplitMix64's word number i from a seed on, by what is published of it.
func split(seed uint64, i int) uint64 {
	z := seed + uint64(i+1)*0x9E3779B97F4A7C15
	z = (z ^ z>>30) * 0xBF58476D1CE4E5B9
	z = (z ^ z>>27) * 0x94D049BB133111EB
	return z ^ z>>31
}

// behind tells the state at a place of a seed, by chapter 14's words.
func behind(kind int, seed uint64, place wide.U128) gen.State {
	a, b, c, d := split(seed, 0), split(seed, 1), split(seed, 2), split(seed, 3)
	first := []gen.State{
		{Kind: 1, Mix: seed},
		{Kind: 2, Xosh: xosh.State{a, b, c, d}},
		{Kind: 3, Pcg: pcg.State{S: wide.U128{Hi: a, Lo: b}, I: wide.U128{Hi: c, Lo: d | 1}}},
		{Kind: 4, Philox: half.State{K: philox.Key{uint32(a), uint32(a >> 32)}}},
	}[kind-1]
	s, _ := gen.Jump(first, place)
	return s
}

// wordsAt tells the words at so many places from one on.
func wordsAt(kind int, seed uint64, place wide.U128, many int) []uint64 {
	l := make([]uint64, many)
	s := behind(kind, seed, place)
	for i := range l {
		l[i] = gen.Word(s)
		s = gen.Step(s)
	}
	return l
}

// model is what a cursor is by the chapter's words, with no words but how many were made ahead.
type model struct {
	kind  int
	seed  uint64
	place wide.U128
	ahead int
}

// great tells a number as one of the library's.
func great(n wide.U128) *big.Int {
	b := new(big.Int).SetUint64(n.Hi)
	return b.Add(b.Lsh(b, 64), new(big.Int).SetUint64(n.Lo))
}

// next is Next of the model: the word is that at the place.
func (m *model) next() (uint64, api.Errno) {
	if m.place == limit(m.kind) {
		return 0, api.ErrOver
	}
	for m.ahead == 0 {
		for m.ahead < 8 && wide.Cmp(more(m.place, uint64(m.ahead)), limit(m.kind)) < 0 {
			m.ahead++
		}
	}
	word := gen.Word(behind(m.kind, m.seed, m.place))
	m.ahead--
	m.place = more(m.place, 1)
	return word, api.OK
}

// skip is Skip of the model.
func (m *model) skip(n wide.U128) api.Errno {
	sum := new(big.Int).Add(great(m.place), great(n))
	if sum.Cmp(great(limit(m.kind))) > 0 {
		return api.ErrOver
	}
	m.place, _ = wide.Add(m.place, n)
	if great(n).Cmp(big.NewInt(int64(m.ahead))) < 0 {
		m.ahead -= int(n.Lo)
	} else {
		m.ahead = 0
	}
	return api.OK
}

// hold tells whether a cursor is as the model is, in all that can be asked.
func (m model) hold(t *testing.T, c *Cursor, what string) bool {
	t.Helper()
	ok := true
	if c.Kind() != m.kind || c.Seed() != m.seed || c.Place() != m.place {
		t.Errorf("%s: kind %d, seed %X, place %v, not %+v", what, c.Kind(), c.Seed(), c.Place(), m)
		ok = false
	}
	if got, want := c.Buffered(), wordsAt(m.kind, m.seed, m.place, m.ahead); !slices.Equal(got, want) {
		t.Errorf("%s: of %+v the buffer has %X, not %X", what, m, got, want)
		ok = false
	}
	if got, want := c.State(), behind(m.kind, m.seed, m.place); got != want {
		t.Errorf("%s: of %+v the state is %v, not %v", what, m, got, want)
		ok = false
	}
	return ok
}

// made tells a new cursor, and its model.
func made(t *testing.T, kind int, seed uint64, at wide.U128) (*Cursor, *model) {
	t.Helper()
	c, err := New(kind, seed, at)
	if err != api.OK || c == nil {
		t.Fatalf("New(%d, %X, %v): %v, %v", kind, seed, at, c, err)
	}
	return c, &model{kind: kind, seed: seed, place: at}
}

// goOn asks both for the next word, and tells whether they are the same.
func goOn(t *testing.T, c *Cursor, m *model, what string) bool {
	t.Helper()
	want, wantErr := m.next()
	got, err := c.Next()
	if got != want || err != wantErr {
		t.Errorf("%s: Next, behind which is %+v: %X, %v, not %X, %v", what, *m, got, err, want, wantErr)
		return false
	}
	return m.hold(t, c, what+", Next")
}

// skipOn lets both skip, and tells whether they are the same.
func skipOn(t *testing.T, c *Cursor, m *model, n wide.U128, what string) bool {
	t.Helper()
	want := m.skip(n)
	if err := c.Skip(n); err != want {
		t.Errorf("%s: Skip(%v), behind which is %+v: %v, not %v", what, n, *m, err, want)
		return false
	}
	return m.hold(t, c, what+", Skip")
}

func TestExample(t *testing.T) { // P16.1, P16.2: the chapter's, and what the buffer has at each step
	c, err := New(api.Mix, 0, wide.U128{})
	if err != api.OK {
		t.Fatal(err)
	}
	if w, err := c.Next(); w != 0xE220A8397B1DCDAF || err != api.OK {
		t.Errorf("Next: %X, %v", w, err)
	}
	if b := c.Buffered(); len(b) != 7 || b[0] != 0x6E789E6AA1B965F4 || b[1] != 0x06C45D188009454F || b[2] != 0xF88BB8A8724C81EC {
		t.Errorf("Buffered: %X", b)
	}
	if err := c.Skip(wide.Of(1)); err != api.OK {
		t.Errorf("Skip: %v", err)
	}
	if w, err := c.Next(); w != 0x06C45D188009454F || err != api.OK {
		t.Errorf("Next: %X, %v", w, err)
	}
	if b := c.Buffered(); c.Place() != wide.Of(3) || len(b) != 5 || b[0] != 0xF88BB8A8724C81EC {
		t.Errorf("at %v: %X", c.Place(), b)
	}
}

func TestWrittenOut(t *testing.T) { // P16.1, P16.2: the last words of Mix, written out: of the places 2^63 less 2, less 1, and none more
	c, err := New(api.Mix, 0, wide.Of(1<<63-2))
	if err != api.OK || c.State() != (gen.State{Kind: 1, Mix: 0x43910C8D016B07D6}) {
		t.Fatalf("at the last place but one: %X, %v", c.State().Mix, err)
	}
	for i, want := range []uint64{0xF768BD32E7DB96EB, 0x25C26EA579CEA98A} {
		if w, err := c.Next(); w != want || err != api.OK || len(c.Buffered()) != 1-i {
			t.Errorf("word %d: %X, %v, and %X", i, w, err, c.Buffered())
		}
	}
	if w, err := c.Next(); w != 0 || err != api.ErrOver {
		t.Errorf("at the limit: %X, %v", w, err)
	}
	if s := c.State(); s != (gen.State{Kind: 1, Mix: 1 << 63}) || c.Place() != wide.Of(1<<63) {
		t.Errorf("at the limit: %v, %v", s, c.Place())
	}
}

func TestNew(t *testing.T) { // P16.1: of each kind, at each place up to Limit; nothing is in the buffer
	for _, kind := range kinds() {
		for _, seed := range seeds() {
			for _, at := range somePlaces(kind, 29) {
				c, m := made(t, kind, seed, at)
				m.hold(t, c, "New")
			}
		}
		for _, at := range places(kind) {
			c, m := made(t, kind, 42, at)
			m.hold(t, c, "New")
		}
	}
}

func TestStateIsTheSeeds(t *testing.T) { // P16.1: as chapter 14 tells it; at Limit the one behind the last one's
	for _, kind := range kinds() {
		for _, s := range seeds() {
			last, _ := made(t, kind, s, less(limit(kind), 1))
			end, _ := made(t, kind, s, limit(kind))
			if end.State() != gen.Step(last.State()) || gen.Check(end.State()) != api.OK {
				t.Errorf("kind %d, seed %X: at the limit %v", kind, s, end.State())
			}
			for _, at := range somePlaces(kind, 41) {
				c, _ := made(t, kind, s, at)
				if got := seed.Is(c.State(), kind, s, at); got != (at != limit(kind)) {
					t.Errorf("kind %d, seed %X, at %v: seed.Is %v", kind, s, at, got)
				}
			}
		}
	}
}

func TestNewRefuses(t *testing.T) { // P16.1: places above Limit, no kinds, ahead of places, and no cursor beside an error
	for _, kind := range kinds() {
		l := []wide.U128{more(limit(kind), 1), more(limit(kind), 2), more(limit(kind), api.Block), wide.Left(limit(kind), 1), most, less(most, 1), {Hi: top}}
		if kind == api.Mix {
			l = append(l, wide.U128{Hi: 1}, wide.U128{Hi: 1, Lo: 5}, wide.Of(top), middle, wide.U128{Hi: 1 << 62})
		}
		for _, at := range l {
			// Twice the limit of the others would be 2^128, which is 0.
			if at == (wide.U128{}) {
				continue
			}
			for _, s := range seeds() {
				if c, err := New(kind, s, at); c != nil || err != api.ErrOver {
					t.Errorf("New(%d, %X, %v): %v, %v", kind, s, at, c, err)
				}
			}
		}
	}
	for _, kind := range noKinds() {
		for _, at := range []wide.U128{{}, wide.Of(1), wide.Of(1 << 63), middle, more(middle, 1), most} {
			if c, err := New(kind, 7, at); c != nil || err != api.ErrKind {
				t.Errorf("New(%d, 7, %v): %v, %v", kind, at, c, err)
			}
		}
	}
}

func TestNext(t *testing.T) { // P16.2, P16.3: one by one, across two ends of blocks, up to Limit, and there
	for _, kind := range kinds() {
		for _, at := range somePlaces(kind, 53) {
			c, m := made(t, kind, 1234567, at)
			for range 2*api.Block + 3 {
				if !goOn(t, c, m, "one by one") {
					break
				}
			}
		}
	}
}

func TestNextAtLimit(t *testing.T) { // P16.2: ErrOver, again and again; nothing is changed
	for _, kind := range kinds() {
		for _, seed := range seeds() {
			for _, back := range []uint64{0, 1, 2, api.Block - 1, api.Block, api.Block + 1, 2 * api.Block} {
				c, m := made(t, kind, seed, less(limit(kind), back))
				for range back {
					if w, err := c.Next(); err != api.OK {
						t.Errorf("kind %d, %d ahead of the limit: %X, %v", kind, back, w, err)
					}
				}
				m.place = limit(kind)
				for range 3 {
					goOn(t, c, m, "at the limit")
				}
			}
		}
	}
}

func TestLastBlock(t *testing.T) { // P16.2: as many words are made as there are below Limit, never more than Block
	for _, kind := range kinds() {
		for left := range uint64(2*api.Block + 2) {
			if left == 0 {
				continue
			}
			c, m := made(t, kind, 99, less(limit(kind), left))
			goOn(t, c, m, "last block")
			if got, want := len(c.Buffered()), int(min(left, api.Block))-1; got != want {
				t.Errorf("kind %d, %d left: %d in the buffer, not %d", kind, left, got, want)
			}
		}
	}
}

func TestFilledWhenAsked(t *testing.T) { // P16.2: by Next alone, where the buffer has none; by nothing else
	for _, kind := range kinds() {
		c, m := made(t, kind, 5, wide.Of(100))
		for i := range 3 * api.Block {
			had := len(c.Buffered())
			_, _, _, _, _ = c.Kind(), c.Seed(), c.Place(), c.State(), c.Copy()
			if len(c.Buffered()) != had || had != (3*api.Block-i)%api.Block {
				t.Errorf("kind %d, behind %d words: %d and %d in the buffer", kind, i, had, len(c.Buffered()))
			}
			goOn(t, c, m, "filled")
		}
		skipOn(t, c, m, wide.Of(3), "none to skip")
		if b := c.Buffered(); len(b) != 0 {
			t.Errorf("kind %d: a skip has made %X", kind, b)
		}
	}
}

func TestSkip(t *testing.T) { // P16.2: of none, of less than the buffer has, of all, of more; and the words behind
	for _, kind := range kinds() {
		for _, at := range []wide.U128{{}, wide.Of(1<<62 - 5), less(limit(kind), 1<<40+3), less(limit(kind), 2*api.Block+3)} {
			for had := range api.Block {
				for n := range uint64(api.Block + 3) {
					c, m := made(t, kind, 3, at)
					for range api.Block - had {
						_, _ = c.Next()
					}
					m.place, m.ahead = more(at, uint64(api.Block-had)), had
					if skipOn(t, c, m, wide.Of(n), "skip") {
						goOn(t, c, m, "behind a skip")
						goOn(t, c, m, "behind a skip")
					}
				}
			}
		}
	}
}

func TestSkipFar(t *testing.T) { // P16.2, P16.3: with words in the buffer and without, at once and in parts, up to Limit
	for _, kind := range kinds() {
		for _, had := range []int{0, 1, 5, 7} {
			for _, n := range somePlaces(kind, 37) {
				c, m := made(t, kind, 1<<63, wide.U128{})
				for range (api.Block - had) % api.Block {
					_, _ = c.Next()
					m.place = more(m.place, 1)
				}
				m.ahead = had
				// Behind some words the greatest of these numbers are refused; then the cursor goes on from where it was.
				skipOn(t, c, m, n, "far")
				goOn(t, c, m, "behind far")
				goOn(t, c, m, "behind far")
				left, _ := wide.Sub(limit(kind), m.place)
				first := wide.Right(left, 1)
				second, _ := wide.Sub(left, first)
				skipOn(t, c, m, first, "the first half")
				skipOn(t, c, m, second, "the second half")
				goOn(t, c, m, "at the limit")
			}
		}
	}
}

func TestSkipRefuses(t *testing.T) { // P16.2: one more than there are up to Limit, up to the greatest number; nothing is changed
	for _, kind := range kinds() {
		for _, at := range somePlaces(kind, 61) {
			for _, used := range []int{0, 1, 3} {
				c, m := made(t, kind, top, at)
				for range used {
					_, _ = m.next()
					_, _ = c.Next()
				}
				left, _ := wide.Sub(limit(kind), m.place)
				toZero, _ := wide.Sub(wide.U128{}, m.place)
				for _, n := range []wide.U128{more(left, 1), more(left, 2), more(left, api.Block), most, less(most, 1), less(most, 7), middle, more(middle, 1), {Hi: top}, toZero, more(toZero, 1), more(toZero, 5)} {
					// What is not above Limit is no wrong input here.
					if wide.Cmp(n, left) <= 0 {
						continue
					}
					if err := c.Skip(n); err != api.ErrOver {
						t.Errorf("at %+v: Skip(%v): %v", *m, n, err)
					}
					if !m.hold(t, c, "refused") {
						return
					}
				}
				skipOn(t, c, m, left, "to the limit")
				skipOn(t, c, m, wide.U128{}, "at the limit, none")
				skipOn(t, c, m, wide.Of(1), "at the limit, one")
				goOn(t, c, m, "at the limit")
			}
		}
	}
}

func TestCopy(t *testing.T) { // P16.1: as it, with its buffer, and apart from it, both ways
	for _, kind := range kinds() {
		for _, at := range []wide.U128{{}, wide.Of(1<<63 - 20), less(limit(kind), api.Block+3), limit(kind)} {
			for used := range api.Block + 2 {
				c, m := made(t, kind, 77, at)
				for range used {
					_, _ = m.next()
					_, _ = c.Next()
				}
				d, n := c.Copy(), *m
				if d == c || len(c.buffer) > 0 && &d.buffer[0] == &c.buffer[0] {
					t.Fatalf("kind %d: a copy is the cursor itself, or has its block", kind)
				}
				n.hold(t, d, "copy")
				// The one goes on beyond its block, while the other one stays; and the other way round.
				for range api.Block + 1 {
					goOn(t, c, m, "the cursor")
					n.hold(t, d, "the copy that stays")
				}
				skipOn(t, d, &n, wide.Of(2), "the copy")
				for range api.Block + 2 {
					goOn(t, d, &n, "the copy")
					m.hold(t, c, "the cursor that stays")
				}
			}
		}
	}
}

func TestCopyOfCopy(t *testing.T) { // P16.1: copies are cursors like others, and copies of one are apart
	for _, kind := range kinds() {
		c, m := made(t, kind, 11, wide.Of(6))
		goOn(t, c, m, "the first")
		all, models := []*Cursor{c}, []model{*m}
		for i := range 6 {
			skipOn(t, all[i], &models[i], wide.Of(1), "ahead of a copy")
			all, models = append(all, all[i].Copy()), append(models, models[i])
		}
		for round := range 12 {
			for i := range all {
				if (round+i)%3 == 0 {
					goOn(t, all[i], &models[i], "a round")
				}
				for k := range all {
					models[k].hold(t, all[k], "all of a round")
				}
			}
		}
	}
}

func TestBufferedIsNoPart(t *testing.T) { // R3: what it tells can be written over, and grown; nothing of the cursor, or a copy, changes
	for _, kind := range kinds() {
		for used := range api.Block + 1 {
			c, m := made(t, kind, 13, wide.Of(1000))
			for range used {
				goOn(t, c, m, "ahead")
			}
			d, n := c.Copy(), *m
			first, second := c.Buffered(), c.Buffered()
			kept := slices.Clone(second)
			for i := range first {
				first[i] = ^first[i]
			}
			_ = append(first[:0], slices.Repeat([]uint64{1}, api.Block)...)
			grown := append(c.Buffered(), 5, 6, 7)
			if !slices.Equal(second, kept) {
				t.Errorf("kind %d, %d used: two answers share words", kind, used)
			}
			m.hold(t, c, "written over")
			n.hold(t, d, "written over, of the copy")
			for range api.Block + 2 {
				goOn(t, c, m, "behind it")
				goOn(t, d, &n, "behind it, of the copy")
			}
			if !slices.Equal(second, kept) || !slices.Equal(grown[len(grown)-3:], []uint64{5, 6, 7}) {
				t.Errorf("kind %d, %d used: what was told was changed", kind, used)
			}
		}
	}
}

func TestBufferedHasNoMore(t *testing.T) { // P16.3: behind the words that are told stands nothing that was made and used
	for _, kind := range kinds() {
		c, m := made(t, kind, 17, less(limit(kind), api.Block+5))
		for range api.Block + 5 {
			goOn(t, c, m, "up to the limit")
			for _, w := range c.buffer[:cap(c.buffer)][len(c.buffer):] {
				t.Errorf("kind %d: behind the buffer's words stands %X", kind, w)
			}
		}
	}
}

func TestWordsAreThoseAtPlaces(t *testing.T) { // P16.3: whatever was skipped, and as the seed's words at a place
	for _, kind := range kinds() {
		for _, at := range []wide.U128{wide.Of(0), wide.Of(1<<62 + 1), less(limit(kind), 301)} {
			want, err := seed.Some(kind, 23, at, api.MostWords)
			if err != api.OK {
				t.Fatal(err)
			}
			for _, skips := range [][]uint64{{0}, {1}, {0, 1, 2}, {7}, {8}, {9}, {0, 0, 0, 3}, {0, 12, 5}, {31, 0, 0, 0, 0, 0, 0, 0, 0, 2}} {
				c, _ := made(t, kind, 23, at)
				for i, k := 0, 0; i < len(want); i, k = i+1, k+1 {
					n := skips[k%len(skips)]
					if i+int(n) >= len(want) {
						break
					}
					if err := c.Skip(wide.Of(n)); err != api.OK {
						t.Fatal(err)
					}
					i += int(n)
					if got, err := c.Next(); got != want[i] || err != api.OK || len(c.Buffered()) > api.Block {
						t.Fatalf("kind %d, at %v and %d, by %v: %X, %v, not %X", kind, at, i, skips, got, err, want[i])
					}
				}
			}
		}
	}
}

// someSkip tells a number to skip: few words, about as many as are left, or any.
func someSkip(r *rand.Rand, m model) wide.U128 {
	left, _ := wide.Sub(limit(m.kind), m.place)
	switch r.IntN(8) {
	case 0:
		return more(less(left, uint64(api.Block)), r.Uint64N(2*api.Block+2))
	case 1:
		return wide.Right(left, 1+r.IntN(120))
	case 2:
		return wide.Right(wide.U128{Hi: r.Uint64(), Lo: r.Uint64()}, r.IntN(128))
	}
	return wide.Of(r.Uint64N(api.Block + 3))
}

func TestWalks(t *testing.T) { // P16.1 to P16.3: random calls, beside the model, of cursors and copies of them
	r := rand.New(rand.NewPCG(20, 21))
	for walk := range 120 {
		kind := kinds()[walk%4]
		all := places(kind)
		c, m := made(t, kind, r.Uint64(), all[r.IntN(len(all))])
		for range 40 {
			ok := true
			switch r.IntN(10) {
			case 0, 1:
				ok = skipOn(t, c, m, someSkip(r, *m), "a walk")
			case 2:
				c = c.Copy()
				ok = m.hold(t, c, "a walk, Copy")
			default:
				ok = goOn(t, c, m, "a walk")
			}
			if !ok {
				return
			}
		}
	}
}

// ask tells all that a row of calls answers.
func ask(kind int, seed uint64, at wide.U128) []uint64 {
	c, err := New(kind, seed, at)
	l := []uint64{uint64(err)}
	if err != api.OK {
		return l
	}
	for i := range uint64(30) {
		w, err := c.Next()
		l = append(l, w, uint64(err), uint64(c.Skip(wide.Of(i%4))))
		l = append(append(l, c.Place().Hi, c.Place().Lo), c.Buffered()...)
		b, _ := gen.Put(c.State())
		for _, n := range b {
			l = append(l, uint64(n))
		}
	}
	return l
}

func TestSameCallsSameAnswers(t *testing.T) { // R4, R5: whatever else was called in between
	for _, kind := range append(kinds(), 0, 5) {
		for _, at := range []wide.U128{{}, wide.Of(12), less(limit(kind), 20), most} {
			want := ask(kind, 8, at)
			for _, other := range kinds() {
				_ = ask(other, 9, at)
				if got := ask(kind, 8, at); !slices.Equal(got, want) {
					t.Errorf("kind %d, at %v: other answers than ahead of those of kind %d", kind, at, other)
				}
			}
		}
	}
}

func TestCursorsAreApart(t *testing.T) { // R5: two of the same kind, seed and place go on by themselves
	for _, kind := range kinds() {
		c, m := made(t, kind, 4, wide.Of(2))
		d, n := made(t, kind, 4, wide.Of(2))
		for i := range 20 {
			goOn(t, c, m, "the first one")
			n.hold(t, d, "the other one")
			if i%3 == 0 {
				skipOn(t, d, n, wide.Of(5), "the other one")
				goOn(t, d, n, "the other one")
				m.hold(t, c, "the first one")
			}
		}
	}
}
