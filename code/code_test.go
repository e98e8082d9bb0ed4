package code

import (
	"bytes"
	"encoding/binary"
	"encoding/hex"
	"math"
	"math/big"
	"math/rand/v2"
	"slices"
	"strings"
	"testing"

	"knucklebone/api"
	"knucklebone/gen"
	"knucklebone/seed"
	"knucklebone/span"
	"knucklebone/tree"
	"knucklebone/wide"
)

const (
	// most is the greatest Next, and above all handles: 2^31 - 1.
	most = 1<<31 - 1
	top  = math.MaxUint64
	// of is the seed of most trees.
	of = 0x0123456789ABCDEF
)

// greatest is 2^128 - 1.
var greatest = wide.U128{Hi: top, Lo: top}

// kinds tells all four.
func kinds() []int { return []int{api.Mix, api.Xosh, api.Pcg, api.Philox} }

// noKinds tells numbers that are none, at the edges too.
func noKinds() []int {
	return []int{0, 5, 6, -1, -2, -3, -4, 255, 256, 257, 1<<32 + 1, math.MinInt, math.MinInt + 1, math.MaxInt}
}

// streamSize tells how many bytes a stream of a kind has: 4 of the handle, 32 of the span, 1 of the kind, and those of the kind's numbers.
func streamSize(kind int) int {
	return 4 + 32 + 1 + map[int]int{api.Mix: 8, api.Xosh: 32, api.Pcg: 32, api.Philox: 25}[kind]
}

// headSize is how many bytes stand ahead of the streams: KNK1, the kind, the seed, Next, and how many streams there are.
const headSize = 4 + 1 + 8 + 4 + 1

// limit tells of how many steps the states of a kind are kept apart, by chapter 13.
func limit(kind int) wide.U128 {
	if kind == api.Mix {
		return wide.Of(1 << 63)
	}
	return wide.U128{Hi: 1 << 63}
}

// great tells a number as one of the library's; small128 tells it back, modulo 2^128.
func great(n wide.U128) *big.Int {
	b := new(big.Int).SetUint64(n.Hi)
	return b.Add(b.Lsh(b, 64), new(big.Int).SetUint64(n.Lo))
}

func small128(b *big.Int) wide.U128 {
	lo := new(big.Int).And(b, new(big.Int).SetUint64(top)).Uint64()
	hi := new(big.Int).Rsh(b, 64)
	return wide.U128{Hi: hi.And(hi, new(big.Int).SetUint64(top)).Uint64(), Lo: lo}
}

// by tells a number and another one, which may be below 0.
func by(n wide.U128, more int64) wide.U128 {
	return small128(new(big.Int).Add(great(n), big.NewInt(more)))
}

// between tells a span by its places; sp one of small places; all that of all places of a kind.
func between(from, to wide.U128) span.Span { return span.Span{From: from, To: to} }
func sp(from, to uint64) span.Span         { return between(wide.Of(from), wide.Of(to)) }
func all(kind int) span.Span               { return between(wide.U128{}, limit(kind)) }

// wideBytes tells a number's 16 bytes, the lowest first.
func wideBytes(n wide.U128) []byte {
	return binary.LittleEndian.AppendUint64(binary.LittleEndian.AppendUint64(nil, n.Lo), n.Hi)
}

// stateBytes tells the bytes of a seed's state behind so many steps, by chapter 13's words.
func stateBytes(kind int, of uint64, at wide.U128) []byte {
	first, err := seed.New(kind, of)
	if err != api.OK {
		panic(err)
	}
	s, err := gen.Jump(first, at)
	if err != api.OK {
		panic(err)
	}
	b, le := []byte{byte(kind)}, binary.LittleEndian
	switch kind {
	case api.Mix:
		return le.AppendUint64(b, s.Mix)
	case api.Xosh:
		for _, w := range s.Xosh {
			b = le.AppendUint64(b, w)
		}
		return b
	case api.Pcg:
		return append(append(b, wideBytes(s.Pcg.S)...), wideBytes(s.Pcg.I)...)
	}
	b = append(b, wideBytes(s.Philox.C)...)
	b = le.AppendUint32(le.AppendUint32(b, s.Philox.K[0]), s.Philox.K[1])
	if s.Philox.Second {
		return append(b, 1)
	}
	return append(b, 0)
}

// laid is a stream's parts.
type laid struct {
	handle uint32
	span   span.Span
	state  []byte
}

// parts is all of a tree's bytes, part by part, but the sum; they may be no tree's.
type parts struct {
	mark string
	kind byte
	seed uint64
	next uint32
	many byte
	laid []laid
}

// sumOf tells the sum by the chapter's words.
func sumOf(b []byte) uint32 {
	sum := new(big.Int)
	for i, c := range b {
		sum.Add(sum, new(big.Int).Mul(big.NewInt(int64(i)+1), big.NewInt(int64(c))))
	}
	return uint32(sum.Mod(sum, big.NewInt(1<<32)).Uint64())
}

// summed tells bytes, and the sum behind them.
func summed(b []byte) []byte { return binary.LittleEndian.AppendUint32(slices.Clone(b), sumOf(b)) }

// resummed tells bytes of which the sum, at their end, is put right.
func resummed(b []byte) []byte { return summed(b[:len(b)-4]) }

// bytes tells them as bytes, the sum being right.
func (p parts) bytes() []byte {
	le := binary.LittleEndian
	b := append([]byte(p.mark), p.kind)
	b = append(le.AppendUint32(le.AppendUint64(b, p.seed), p.next), p.many)
	for _, l := range p.laid {
		b = append(le.AppendUint32(b, l.handle), wideBytes(l.span.From)...)
		b = append(append(b, wideBytes(l.span.To)...), l.state...)
	}
	return summed(b)
}

// partsOf tells the parts of a tree with such allotments, behind the handles from 0 on.
func partsOf(kind int, of uint64, spans ...span.Span) parts {
	p := parts{"KNK1", byte(kind), of, uint32(len(spans)), byte(len(spans)), nil}
	for h, s := range spans {
		p.laid = append(p.laid, laid{uint32(h), s, stateBytes(kind, of, s.From)})
	}
	return p
}

// handled tells the same parts, with other handles, and another Next.
func (p parts) handled(next uint32, handles ...uint32) parts {
	p.next, p.laid = next, slices.Clone(p.laid)
	for i, h := range handles {
		p.laid[i].handle = h
	}
	return p
}

// ofTree tells a tree's parts.
func ofTree(tr *tree.Tree) parts {
	p := partsOf(tr.Kind(), tr.Seed(), tr.Spans()...)
	p.next = uint32(tr.Next())
	for i, h := range tr.Handles() {
		p.laid[i].handle = uint32(h)
	}
	return p
}

// isTree tells whether bytes are a tree's, by the chapter's words.
func isTree(b []byte) bool {
	le := binary.LittleEndian
	if len(b) < headSize+4 || string(b[:4]) != "KNK1" || le.Uint32(b[len(b)-4:]) != sumOf(b[:len(b)-4]) {
		return false
	}
	kind, of, next, many := int(b[4]), le.Uint64(b[5:]), le.Uint32(b[13:]), int(b[17])
	if !slices.Contains(kinds(), kind) || many > 16 || len(b) != headSize+many*streamSize(kind)+4 || next > most {
		return false
	}
	above, spans := -1, []span.Span{}
	for row := range slices.Chunk(b[headSize:len(b)-4], streamSize(kind)) {
		h := int(le.Uint32(row))
		from, to := wide.U128{Lo: le.Uint64(row[4:]), Hi: le.Uint64(row[12:])}, wide.U128{Lo: le.Uint64(row[20:]), Hi: le.Uint64(row[28:])}
		if h <= above || h >= int(next) || !mayBe(kind, between(from, to), spans) || !bytes.Equal(row[36:], stateBytes(kind, of, from)) {
			return false
		}
		above, spans = h, append(spans, between(from, to))
	}
	return true
}

// mayBe tells whether a span may be an allotment beside others.
func mayBe(kind int, s span.Span, others []span.Span) bool {
	if great(s.From).Cmp(great(s.To)) > 0 || great(s.To).Cmp(great(limit(kind))) > 0 {
		return false
	}
	for _, o := range others {
		from, to := great(s.From), great(s.To)
		if f := great(o.From); f.Cmp(from) > 0 {
			from = f
		}
		if t := great(o.To); t.Cmp(to) < 0 {
			to = t
		}
		if from.Cmp(to) < 0 {
			return false
		}
	}
	return true
}

// grown is a tree, and how it was made.
type grown struct {
	how string
	tr  *tree.Tree
}

// must fails, if an error is one.
func must(t *testing.T, err api.Errno) {
	t.Helper()
	if err != api.OK {
		t.Fatal(err)
	}
}

// open tells a new tree.
func open(t *testing.T, kind int, of uint64) *tree.Tree {
	t.Helper()
	tr, err := tree.New(kind, of)
	must(t, err)
	return tr
}

// bare tells a bare tree, in which some allotments were laid, behind handles from 0 on.
func bare(t *testing.T, kind int, of uint64, spans ...span.Span) *tree.Tree {
	t.Helper()
	tr, err := tree.Bare(kind, of)
	must(t, err)
	for h, s := range spans {
		must(t, tr.Lay(h, s))
	}
	return tr
}

// full tells a tree of 16 streams.
func full(t *testing.T, kind int, of uint64) *tree.Tree {
	t.Helper()
	tr := open(t, kind, of)
	for h := range 15 {
		_, err := tr.Split(h / 2)
		must(t, err)
	}
	return tr
}

// used tells a tree of which words were used in all ways.
func used(t *testing.T, kind int, of uint64) *tree.Tree {
	t.Helper()
	tr := open(t, kind, of)
	for h := range 4 {
		_, err := tr.Split(h)
		must(t, err)
	}
	_, err := tr.Uint64(0)
	must(t, err)
	_, err = tr.Fill(1, 11)
	must(t, err)
	_, err = tr.Bytes(2, 17)
	must(t, err)
	must(t, tr.Skip(3, wide.Of(1<<40+3)))
	_, err = tr.Bounded(4, 6)
	must(t, err)
	return tr
}

// dropped tells a tree of which all streams but those were dropped.
func dropped(t *testing.T, tr *tree.Tree, left ...int) *tree.Tree {
	t.Helper()
	for _, h := range tr.Handles() {
		if !slices.Contains(left, h) {
			must(t, tr.Drop(h))
		}
	}
	return tr
}

// skipped tells a tree of which a stream has skipped all that was left.
func skipped(t *testing.T, tr *tree.Tree, h int) *tree.Tree {
	t.Helper()
	s, err := tr.Stream(h)
	must(t, err)
	must(t, tr.Skip(h, s.Left()))
	return tr
}

// gone tells a tree that went on to a Next.
func gone(t *testing.T, tr *tree.Tree, next int) *tree.Tree {
	t.Helper()
	must(t, tr.Goes(next))
	return tr
}

// high tells a tree with a stream behind the greatest handle.
func high(t *testing.T, kind int, of uint64) *tree.Tree {
	t.Helper()
	tr := bare(t, kind, of, sp(0, 9))
	must(t, tr.Lay(most-1, sp(10, 19)))
	return tr
}

// trees tells trees of a kind and a seed, at all edges.
func trees(t *testing.T, kind int, of uint64) []grown {
	t.Helper()
	far := limit(kind)
	split := open(t, kind, of)
	_, err := split.Split(0)
	must(t, err)
	return []grown{
		{"new", open(t, kind, of)},
		{"bare", bare(t, kind, of)},
		{"bare, gone on", gone(t, bare(t, kind, of), 300)},
		{"bare, gone on as far as may be", gone(t, bare(t, kind, of), most)},
		{"split", split},
		{"full", full(t, kind, of)},
		{"full, gone on", gone(t, full(t, kind, of), 1<<24+2)},
		{"used", used(t, kind, of)},
		{"dropped", dropped(t, full(t, kind, of), 0, 3, 4, 9, 14)},
		{"dropped at first", dropped(t, full(t, kind, of), 12, 15)},
		{"dropped all", dropped(t, full(t, kind, of))},
		{"used, and dropped", dropped(t, used(t, kind, of), 1, 2)},
		{"at an end", skipped(t, full(t, kind, of), 0)},
		{"at Limit", skipped(t, open(t, kind, of), 0)},
		{"at Limit, and an end", skipped(t, skipped(t, used(t, kind, of), 1), 3)},
		{"laid at Limit", bare(t, kind, of, between(far, far), between(by(far, -1), far))},
		{"laid within another one, of no places", bare(t, kind, of, sp(5, 9), sp(7, 7), sp(7, 7), sp(0, 5))},
		{"behind the greatest handle", high(t, kind, of)},
	}
}

// same holds a tree against another one, in all that can be asked.
func same(t *testing.T, what string, got, want *tree.Tree) {
	t.Helper()
	if got == nil {
		t.Fatalf("%s: no tree", what)
	}
	if got.Kind() != want.Kind() || got.Seed() != want.Seed() || got.Next() != want.Next() {
		t.Errorf("%s: kind %d, seed %X, Next %d, not %d, %X, %d", what, got.Kind(), got.Seed(), got.Next(), want.Kind(), want.Seed(), want.Next())
	}
	if l, m := got.Handles(), want.Handles(); !slices.Equal(l, m) {
		t.Errorf("%s: handles %v, not %v", what, l, m)
	}
	if l, m := got.Spans(), want.Spans(); !slices.Equal(l, m) {
		t.Errorf("%s: spans %v, not %v", what, l, m)
	}
}

// alike holds what is answered of a tree's copy against what is of another one's, from there on.
func alike(t *testing.T, what string, got, want *tree.Tree) {
	t.Helper()
	same(t, what, got, want)
	a, b := got.Copy(), want.Copy()
	for _, h := range want.Handles() {
		for _, n := range []int{1, 9, 0, 3} {
			w, err := a.Fill(h, n)
			v, wantErr := b.Fill(h, n)
			if !slices.Equal(w, v) || err != wantErr {
				t.Errorf("%s: Fill(%d, %d): %X, %v, not %X, %v", what, h, n, w, err, v, wantErr)
			}
		}
		w, err := a.Uint64(h)
		v, wantErr := b.Uint64(h)
		x, errX := a.Bounded(h, 1<<63+1)
		y, wantX := b.Bounded(h, 1<<63+1)
		if w != v || err != wantErr || x != y || errX != wantX {
			t.Errorf("%s: of %d %X, %v, %X, %v, not %X, %v, %X, %v", what, h, w, err, x, errX, v, wantErr, y, wantX)
		}
		c, err := a.Split(h)
		d, wantErr := b.Split(h)
		if c != d || err != wantErr {
			t.Errorf("%s: Split(%d): %d, %v, not %d, %v", what, h, c, err, d, wantErr)
		}
	}
	same(t, what+", gone on with", a, b)
}

// refused holds that bytes are no tree's.
func refused(t *testing.T, what string, b []byte) {
	t.Helper()
	own := slices.Clone(b)
	if tr, err := Load(b); tr != nil || err != api.ErrCorrupt {
		t.Errorf("Load, %s: %v, %v, not ErrCorrupt", what, tr, err)
	}
	if !bytes.Equal(b, own) {
		t.Errorf("Load, %s, changes bytes", what)
	}
}

// loaded holds that bytes are a tree's, and tells it.
func loaded(t *testing.T, what string, b []byte) *tree.Tree {
	t.Helper()
	own := slices.Clone(b)
	tr, err := Load(b)
	if tr == nil || err != api.OK {
		t.Fatalf("Load, %s: %v, %v", what, tr, err)
	}
	if !bytes.Equal(b, own) {
		t.Errorf("Load, %s, changes bytes", what)
	}
	if again, err := Save(tr); !bytes.Equal(again, b) || err != api.OK {
		t.Errorf("Save of what was loaded, %s: %X, %v, not %X", what, again, err, b)
	}
	if l := ofTree(tr).bytes(); !bytes.Equal(l, b) {
		t.Errorf("Load, %s: a tree of %X, not of %X", what, l, b)
	}
	return tr
}

// judged holds Load against the chapter's words; it tells whether bytes are a tree's.
func judged(t *testing.T, what string, b []byte) bool {
	t.Helper()
	if isTree(b) {
		loaded(t, what, b)
		return true
	}
	refused(t, what, b)
	return false
}

func TestSum(t *testing.T) { // P21.1: each byte, multiplied by its place, counted from 1 on
	for _, c := range []struct {
		b    []byte
		want uint32
	}{
		{nil, 0}, {[]byte{}, 0}, {[]byte{1, 2, 3}, 14}, {[]byte{3, 2, 1}, 10}, {[]byte{0}, 0}, {[]byte{1}, 1}, {[]byte{255}, 255}, {[]byte{0, 1}, 2}, {[]byte{0, 255}, 510}, {[]byte{255, 255}, 765}, {[]byte("KNK1"), 75 + 2*78 + 3*75 + 4*49}, {make([]byte, 5000), 0},
	} {
		own := slices.Clone(c.b)
		if got := Sum(c.b); got != c.want || Sum(c.b) != got {
			t.Errorf("Sum(%v): %d, not %d", c.b, got, c.want)
		}
		if !bytes.Equal(c.b, own) {
			t.Errorf("Sum changes %v", own)
		}
	}
	for n := range 256 {
		if got := Sum([]byte{byte(n)}); got != uint32(n) {
			t.Errorf("Sum of the byte %d: %d", n, got)
		}
	}
}

func TestSumIsModulo(t *testing.T) { // P21.1: the sum is modulo 2^32
	// 255 times each of 1 to 5803 is 4294278030, which is 689266 less than 2^32: 118 times 5804, and 4394.
	long := bytes.Repeat([]byte{255}, 5803)
	if got := Sum(long); got != 4294278030 {
		t.Errorf("Sum of 5803 bytes: %d", got)
	}
	under := append(slices.Clone(long), 118)
	if got := Sum(under); got != math.MaxUint32-4393 {
		t.Errorf("Sum, below 2^32: %d", got)
	}
	over := append(slices.Clone(long), 119)
	if got := Sum(over); got != 1410 {
		t.Errorf("Sum, above 2^32: %d", got)
	}
	// The byte at the place 1410, 1 less, makes it 2^32.
	over[1409]--
	if got := Sum(over); got != 0 {
		t.Errorf("Sum, of 2^32: %d", got)
	}
	over[0]--
	if got := Sum(over); got != math.MaxUint32 {
		t.Errorf("Sum, of 2^32 - 1: %d", got)
	}
	r := rand.New(rand.NewPCG(21, 1))
	for range 60 {
		b := make([]byte, r.IntN(20000))
		for i := range b {
			b[i] = byte(r.Uint32())
		}
		if got, want := Sum(b), sumOf(b); got != want {
			t.Errorf("Sum of %d bytes: %d, not %d", len(b), got, want)
		}
	}
	if b := bytes.Repeat([]byte{255}, 200000); Sum(b) != sumOf(b) {
		t.Errorf("Sum of 200000 bytes: %d, not %d", Sum(b), sumOf(b))
	}
}

func TestSize(t *testing.T) { // P21.1: how many bytes the tree of so many streams has
	for kind, want := range map[int][]int{
		api.Mix:    {22, 67, 112, 742},
		api.Xosh:   {22, 91, 160, 1126},
		api.Pcg:    {22, 91, 160, 1126},
		api.Philox: {22, 84, 146, 1014},
	} {
		for i, many := range []int{0, 1, 2, 16} {
			if got := Size(kind, many); got != want[i] || Size(kind, many) != got {
				t.Errorf("Size(%d, %d): %d, not %d", kind, many, got, want[i])
			}
		}
		for many := range 17 {
			if got, want := Size(kind, many), 22+many*streamSize(kind); got != want || got > api.MostBlob {
				t.Errorf("Size(%d, %d): %d, not %d", kind, many, got, want)
			}
		}
		for _, many := range []int{-1, -2, -16, 17, 18, 32, 256, 257, 1 << 32, math.MinInt, math.MinInt + 1, math.MaxInt} {
			if got := Size(kind, many); got != 0 {
				t.Errorf("Size(%d, %d): %d", kind, many, got)
			}
		}
	}
	for _, kind := range noKinds() {
		for _, many := range []int{-1, 0, 1, 16, 17, math.MinInt, math.MaxInt} {
			if got := Size(kind, many); got != 0 {
				t.Errorf("Size(%d, %d): %d", kind, many, got)
			}
		}
	}
}

func TestSaveOfNone(t *testing.T) { // P21.1: ErrArg: there is no tree
	for range 2 {
		if b, err := Save(nil); b != nil || err != api.ErrArg {
			t.Errorf("Save(nil): %v, %v", b, err)
		}
	}
}

// written tells bytes that are written out, and the sum behind them.
func written(t *testing.T, digits string, sum uint32) []byte {
	t.Helper()
	b, err := hex.DecodeString(strings.ReplaceAll(digits, " ", ""))
	if err != nil {
		t.Fatal(err)
	}
	return binary.LittleEndian.AppendUint32(b, sum)
}

func TestWrittenOut(t *testing.T) { // P21.1, P21.2: bytes that are written out
	zero, two63 := strings.Repeat("00", 16), "0000000000000080 0000000000000000"
	two62, two127 := "0000000000000040 0000000000000000", "0000000000000000 0000000000000080"
	split := open(t, api.Mix, 258)
	_, err := split.Split(0)
	must(t, err)
	rolled := open(t, api.Philox, 0)
	_, err = rolled.Fill(0, 3)
	must(t, err)
	for _, c := range []struct {
		grown
		digits string
		sum    uint32
	}{
		{grown{"bare", bare(t, api.Pcg, 0x1122334455667788)}, "4B4E4B31 03 8877665544332211 00000000 00", 5767},
		{grown{"gone on", gone(t, bare(t, api.Xosh, 0), 0x01020304)}, "4B4E4B31 02 0000000000000000 04030201 00", 812},
		{grown{"new", open(t, api.Mix, 7)}, "4B4E4B31 01 0700000000000000 01000000 01 00000000" + zero + two63 + "01 0700000000000000", 7066},
		{grown{"split", split}, "4B4E4B31 01 0201000000000000 02000000 02" +
			"00000000" + zero + two62 + "01 0201000000000000" +
			"01000000" + two62 + two63 + "01 0201000000000040", 27736},
		// Behind 3 words of the key 7B1DCDAF E220A839 C is 1, at the second half.
		{grown{"used", rolled}, "4B4E4B31 04 0000000000000000 01000000 01 00000000" + "03000000000000000000000000000000" + two127 +
			"04 01000000000000000000000000000000 AFCD1D7B 39A820E2 01", 84595},
	} {
		want := written(t, c.digits, c.sum)
		if b, err := Save(c.tr); !bytes.Equal(b, want) || err != api.OK {
			t.Errorf("Save, %s: %X, %v, not %X", c.how, b, err, want)
		}
		if tr, err := Load(want); err == api.OK {
			alike(t, c.how, tr, c.tr)
		} else {
			t.Errorf("Load, %s: %v", c.how, err)
		}
	}
}

func TestSave(t *testing.T) { // P21.1: the bytes, as the chapter lists them; nothing of the tree changes
	for _, kind := range kinds() {
		for _, of := range []uint64{of, 0, top} {
			for _, g := range trees(t, kind, of) {
				want, before := ofTree(g.tr).bytes(), g.tr.Copy()
				b, err := Save(g.tr)
				if !bytes.Equal(b, want) || err != api.OK {
					t.Errorf("Save, %d, %s: %X, %v, not %X", kind, g.how, b, err, want)
				}
				if n := Size(kind, len(g.tr.Handles())); len(b) != n {
					t.Errorf("Save, %d, %s: %d bytes, not %d", kind, g.how, len(b), n)
				}
				alike(t, g.how+", saved", g.tr, before)
			}
		}
	}
}

func TestSaveIsNoPart(t *testing.T) { // R3, R4: what was told can be written over, and grown; Save tells the same again
	for _, kind := range kinds() {
		tr := used(t, kind, of)
		before := tr.Copy()
		b, err := Save(tr)
		must(t, err)
		want := slices.Clone(b)
		clear(b)
		_ = append(b, 7)
		again, err := Save(tr)
		if !bytes.Equal(again, want) || err != api.OK {
			t.Errorf("%d: Save again: %X, %v, not %X", kind, again, err, want)
		}
		other, _ := Save(tr)
		clear(again)
		if !bytes.Equal(other, want) {
			t.Errorf("%d: two answers of Save are one", kind)
		}
		alike(t, "bytes written over", tr, before)
	}
}

func TestSaveFollows(t *testing.T) { // P21.1, R5: what is done with a tree is in the bytes behind it, and not in those ahead
	for _, kind := range kinds() {
		tr := open(t, kind, 3)
		told, want := [][]byte{}, [][]byte{}
		for _, do := range []func() api.Errno{
			func() api.Errno { return api.OK },
			func() api.Errno { _, err := tr.Split(0); return err },
			func() api.Errno { _, err := tr.Uint64(1); return err },
			func() api.Errno { return tr.Skip(0, wide.Of(9)) },
			func() api.Errno { return tr.Drop(0) },
			func() api.Errno { return tr.Goes(9) },
			func() api.Errno { return tr.Lay(10, sp(0, 9)) },
		} {
			must(t, do())
			b, err := Save(tr)
			must(t, err)
			told, want = append(told, b), append(want, ofTree(tr).bytes())
		}
		for i := range told {
			if !bytes.Equal(told[i], want[i]) || i > 0 && bytes.Equal(told[i], told[i-1]) {
				t.Errorf("%d: behind %d things: %X, not %X", kind, i, told[i], want[i])
			}
		}
	}
}

func TestLoad(t *testing.T) { // P21.2, P21.3: trees come back from their bytes, and bytes from trees
	for _, kind := range kinds() {
		for _, of := range []uint64{of, 0, top} {
			for _, g := range trees(t, kind, of) {
				b, err := Save(g.tr)
				must(t, err)
				alike(t, g.how, loaded(t, g.how, b), g.tr)
				if !isTree(b) {
					t.Errorf("%d, %s: what Save tells is no tree's: %X", kind, g.how, b)
				}
			}
		}
	}
}

func TestLoadIsNoPart(t *testing.T) { // R3, R4: bytes can be written over, and loaded again, whatever is done with what was loaded
	for _, kind := range kinds() {
		tr := used(t, kind, of)
		b, err := Save(tr)
		must(t, err)
		own := slices.Clone(b)
		first, second := loaded(t, "first", b), loaded(t, "second", b)
		clear(b)
		alike(t, "bytes written over", first, tr)
		_, err = first.Split(0)
		must(t, err)
		_, err = first.Fill(1, 20)
		must(t, err)
		must(t, first.Drop(2))
		alike(t, "loaded, beside another one", second, tr)
		alike(t, "loaded again", loaded(t, "again", own), tr)
	}
}

func TestLoadOfLists(t *testing.T) { // R3: of a longer list only what is handed in is read, and what is behind it stays
	for _, kind := range kinds() {
		b, err := Save(used(t, kind, of))
		must(t, err)
		long := append(slices.Clone(b), 1, 2, 3)
		loaded(t, "the front of a list", long[:len(b)])
		if !bytes.Equal(long[len(b):], []byte{1, 2, 3}) {
			t.Errorf("%d: Load writes behind its bytes", kind)
		}
	}
}

func TestLoadOfLengths(t *testing.T) { // P21.2: ErrCorrupt: the length is no tree's
	refused(t, "nil", nil)
	refused(t, "no bytes", []byte{})
	for n := range 30 {
		refused(t, "zeros", make([]byte, n))
		refused(t, "KNK1, and zeros", append([]byte("KNK1"), make([]byte, n)...))
		refused(t, "KNK1 and zeros, summed", summed(append([]byte("KNK1"), make([]byte, n)...)))
		refused(t, "a kind, and zeros, summed", summed(append([]byte("KNK1\x01"), make([]byte, n)...)[:min(17, 5+n)]))
	}
	for _, kind := range kinds() {
		for _, g := range trees(t, kind, of) {
			b, err := Save(g.tr)
			must(t, err)
			for n := range len(b) {
				refused(t, g.how+", the first ones", b[:n])
				refused(t, g.how+", the last ones", b[len(b)-n:])
				refused(t, g.how+", the first ones, summed", summed(b[:n-min(n, 5)]))
			}
			refused(t, g.how+", one less", b[:len(b)-1])
			refused(t, g.how+", one less, summed", summed(b[:len(b)-5]))
			for _, more := range []int{1, 2, 4, streamSize(kind), 1000, 100000} {
				refused(t, g.how+", more", append(slices.Clone(b), make([]byte, more)...))
				refused(t, g.how+", more, summed", summed(append(slices.Clone(b[:len(b)-4]), make([]byte, more)...)))
			}
			refused(t, g.how+", one ahead", resummed(append([]byte{0}, b...)))
			refused(t, g.how+", twice", append(slices.Clone(b), b...))
			refused(t, g.how+", twice, summed", resummed(append(slices.Clone(b), b...)))
		}
	}
}

func TestLoadOfOneChange(t *testing.T) { // P21.2: ErrCorrupt: the sum is no tree's, as any one byte is other, also of the sum itself
	for _, kind := range kinds() {
		for _, tr := range []*tree.Tree{bare(t, kind, of), open(t, kind, of), used(t, kind, of)} {
			b, err := Save(tr)
			must(t, err)
			for i := range b {
				for by := 1; by < 256; by++ {
					b[i]++
					refused(t, "one byte other", b)
				}
				b[i]++
			}
			loaded(t, "as it was", b)
		}
		b := full(t, kind, of)
		whole, err := Save(b)
		must(t, err)
		for i := range whole {
			whole[i] ^= 0x10
			refused(t, "one byte of many other", whole)
			whole[i] ^= 0x10
		}
	}
}

func TestLoadOfSums(t *testing.T) { // P21.2: ErrCorrupt: the sum is another one
	for _, kind := range kinds() {
		b := ofTree(used(t, kind, of)).bytes()
		body := b[:len(b)-4]
		right := sumOf(body)
		other := uint32(0)
		for _, c := range body {
			other += uint32(c)
		}
		for _, wrong := range []uint32{0, other, right - other, right + other, right + 1, right - 1, ^right, right + 1<<16, right + 1<<24, right + 1<<31, sumOf(b), sumOf(body[1:])} {
			refused(t, "another sum", binary.LittleEndian.AppendUint32(slices.Clone(body), wrong))
		}
		refused(t, "the sum's highest byte first", binary.BigEndian.AppendUint32(slices.Clone(body), right))
		// Bytes in another order have another sum, though they are the same bytes.
		turned := slices.Clone(b)
		turned[0], turned[1] = turned[1], turned[0]
		refused(t, "turned about", turned)
	}
}

func TestLoadOfMarks(t *testing.T) { // P21.2: ErrCorrupt: it isn't KNK1
	for _, kind := range kinds() {
		for _, p := range []parts{partsOf(kind, of), partsOf(kind, of, sp(1, 9), sp(9, 12))} {
			loaded(t, "KNK1", p.bytes())
			for i := range 4 {
				for by := 1; by < 256; by++ {
					m := []byte("KNK1")
					m[i] += byte(by)
					p.mark = string(m)
					refused(t, p.mark, p.bytes())
				}
			}
			for _, m := range []string{"", "K", "KNK", "KNK2", "knk1", "1KNK", "KNK11", "\x00\x00\x00\x00", "KNK1KNK1"} {
				p.mark = m
				refused(t, m, p.bytes())
			}
		}
	}
}

func TestLoadOfKinds(t *testing.T) { // P21.2: ErrCorrupt: there is no such kind, or the states are none of it
	for _, kind := range kinds() {
		for other := range 256 {
			p, q := partsOf(kind, of, sp(1, 9), sp(9, 12)), partsOf(kind, of)
			p.kind, q.kind = byte(other), byte(other)
			if other == kind {
				loaded(t, "the kind", p.bytes())
			} else {
				refused(t, "another kind", p.bytes())
			}
			if other >= 1 && other <= 4 {
				tr := loaded(t, "another kind, without streams", q.bytes())
				same(t, "another kind, without streams", tr, bare(t, other, of))
			} else {
				refused(t, "no kind, without streams", q.bytes())
			}
		}
	}
	// Both have as many bytes: also a state that tells the other kind itself isn't the seed's.
	p := partsOf(api.Xosh, of, sp(0, 9))
	p.laid[0].state[0] = api.Pcg
	refused(t, "a state of another kind", p.bytes())
	p.kind = api.Pcg
	refused(t, "another kind's numbers", p.bytes())
	p = partsOf(api.Xosh, of, sp(0, 9))
	p.laid[0].state = stateBytes(api.Pcg, of, wide.Of(0))
	refused(t, "another kind's state", p.bytes())
}

func TestLoadOfSeeds(t *testing.T) { // P21.2: ErrCorrupt: the states are another seed's
	for _, kind := range kinds() {
		for bit := range 64 {
			p := partsOf(kind, of, sp(0, 0), sp(9, 12))
			p.seed ^= 1 << bit
			refused(t, "another seed", p.bytes())
			q := partsOf(kind, of)
			q.seed ^= 1 << bit
			same(t, "another seed, without streams", loaded(t, "another seed, without streams", q.bytes()), bare(t, kind, q.seed))
		}
	}
}

func TestLoadOfNumbersOfStreams(t *testing.T) { // P21.2: ErrCorrupt: the length isn't that of so many streams, or these are too many
	for _, kind := range kinds() {
		touching := []span.Span{}
		for i := range 18 {
			touching = append(touching, sp(uint64(i), uint64(i+1)))
		}
		for _, many := range []int{0, 1, 2, 15, 16} {
			p := partsOf(kind, of, touching[:many]...)
			loaded(t, "so many streams", p.bytes())
			for _, wrong := range []int{many - 1, many + 1, many + 2, 16, 17, 18, 32, 127, 128, 255, many + 16, many + 128} {
				if p.many = byte(wrong); wrong != many {
					refused(t, "another number of streams", p.bytes())
				}
			}
		}
		for _, many := range []int{17, 18} {
			refused(t, "too many streams", partsOf(kind, of, touching[:many]...).bytes())
		}
		for _, many := range []int{17, 18, 32, 255} {
			refused(t, "too many streams, without places", partsOf(kind, of, make([]span.Span, many)...).bytes())
		}
		loaded(t, "16 streams without places", partsOf(kind, of, make([]span.Span, 16)...).bytes())
	}
}

func TestLoadOfHandles(t *testing.T) { // P21.2: ErrCorrupt: handles don't rise, or one isn't below Next, or Next is above 2^31 - 1
	for _, kind := range kinds() {
		none, two, three := partsOf(kind, of), partsOf(kind, of, sp(0, 5), sp(7, 9)), partsOf(kind, of, sp(9, 12), sp(0, 5), sp(7, 9))
		for _, p := range []parts{
			none.handled(0), none.handled(1), none.handled(most - 1), none.handled(most), two.handled(2), two.handled(3), two.handled(most), two.handled(2, 0, 1), two.handled(18, 16, 17), two.handled(300, 0, 299),
			two.handled(most, most-2, most-1), two.handled(most, 0, most-1), two.handled(most, most-3, most-2), three.handled(4, 0, 1, 3), three.handled(4, 1, 2, 3), three.handled(70000, 255, 256, 65536),
		} {
			loaded(t, "handles that rise", p.bytes())
		}
		for _, p := range []parts{
			none.handled(1 << 31), none.handled(1<<31 + 1), none.handled(math.MaxUint32), none.handled(math.MaxUint32 - 1), two.handled(1 << 31), two.handled(math.MaxUint32),
			two.handled(0), two.handled(1), two.handled(2, 0, 0), two.handled(2, 1, 1), two.handled(2, 1, 0), two.handled(9, 8, 7), two.handled(9, 7, 7), two.handled(9, 8, 0),
			two.handled(9, 0, 9), two.handled(9, 0, 10), two.handled(9, 9, 10), two.handled(9, 9, 1), two.handled(9, 10, 1), two.handled(0, 0, 1), two.handled(9, 0, 1<<31-1), two.handled(9, 0, 1<<31), two.handled(9, 0, math.MaxUint32),
			two.handled(most, 0, most), two.handled(most, most-1, most), two.handled(1<<31, 0, most), two.handled(1<<31, most-1, most), two.handled(1<<31+1, 0, 1<<31), two.handled(math.MaxUint32, 0, math.MaxUint32-1), two.handled(math.MaxUint32, math.MaxUint32-2, math.MaxUint32-1), two.handled(5, math.MaxUint32, 1), two.handled(5, 1<<31, 1),
			three.handled(9, 0, 2, 1), three.handled(9, 1, 0, 2), three.handled(9, 2, 1, 0), three.handled(9, 0, 1, 1), three.handled(9, 1, 1, 2), three.handled(9, 0, 2, 0), three.handled(3, 0, 1, 3), three.handled(3, 0, 3, 4),
		} {
			refused(t, "handles that don't rise, or are too great", p.bytes())
		}
	}
}

func TestLoadOfSpans(t *testing.T) { // P21.2: ErrCorrupt: a span may not be, or goes above gen.Limit, or meets another one
	for _, kind := range kinds() {
		far := limit(kind)
		half := wide.U128{Hi: 1 << 62}
		if kind == api.Mix {
			half = wide.Of(1 << 62)
		}
		last := between(by(far, -1), far)
		for _, l := range [][]span.Span{
			{all(kind)}, {sp(0, 0)}, {sp(0, 1)}, {sp(9, 9)}, {between(half, far)}, {last}, {between(far, far)}, {between(by(far, -1), by(far, -1))},
			{sp(0, 5), sp(5, 9)}, {sp(5, 9), sp(0, 5)}, {sp(5, 9), sp(0, 5), sp(9, 9)}, {between(wide.Of(0), half), between(half, far)}, {between(half, far), between(wide.Of(0), half)}, {between(wide.Of(0), by(far, -1)), last, between(far, far)},
			{sp(0, 9), sp(5, 5)}, {sp(5, 5), sp(0, 9)}, {sp(5, 5), sp(5, 5)}, {sp(5, 9), sp(5, 5), sp(9, 9)}, {all(kind), between(half, half), between(far, far), sp(0, 0)}, {between(far, far), between(far, far)},
		} {
			loaded(t, "spans apart", partsOf(kind, of, l...).bytes())
		}
		for _, l := range [][]span.Span{
			{sp(1, 0)}, {sp(9, 8)}, {between(far, wide.Of(0))}, {between(far, by(far, -1))}, {between(greatest, wide.Of(0))}, {between(half, by(half, -1))}, {between(greatest, by(greatest, -1))}, {between(by(far, 1), far)}, {between(by(far, 1), wide.Of(0))},
			{between(wide.Of(0), by(far, 1))}, {between(far, by(far, 1))}, {between(by(far, 1), by(far, 1))}, {between(wide.Of(0), greatest)}, {between(greatest, greatest)}, {between(by(far, 1), by(far, 2))},
			{between(wide.U128{Hi: 1}, wide.Of(1))}, {between(wide.U128{Hi: top}, wide.Of(top))},
			{sp(0, 5), sp(4, 9)}, {sp(4, 9), sp(0, 5)}, {sp(0, 5), sp(0, 5)}, {sp(0, 9), sp(4, 5)}, {sp(4, 5), sp(0, 9)}, {sp(0, 5), sp(9, 12), sp(4, 6)}, {sp(0, 5), sp(9, 12), sp(11, 19)}, {sp(0, 5), sp(0, 1)}, {sp(0, 5), sp(4, 5)},
			{all(kind), last}, {last, all(kind)}, {all(kind), all(kind)}, {between(wide.Of(0), by(half, 1)), between(half, far)}, {between(half, far), between(wide.Of(0), by(half, 1))}, {sp(0, 9), sp(5, 5), sp(8, 9)}, {sp(0, 9), sp(5, 4)}, {sp(5, 4), sp(0, 9)},
		} {
			refused(t, "spans that meet, or may not be", partsOf(kind, of, l...).bytes())
		}
	}
	// Between the limits of Mix and of the others.
	for _, s := range []span.Span{between(wide.Of(0), wide.Of(1<<63+1)), between(wide.Of(top), wide.U128{Hi: 1}), between(wide.U128{Hi: 1 << 62}, wide.U128{Hi: 1 << 63})} {
		refused(t, "beyond the limit of Mix", partsOf(api.Mix, of, s).bytes())
		for _, kind := range []int{api.Xosh, api.Pcg, api.Philox} {
			loaded(t, "below the limit", partsOf(kind, of, s).bytes())
		}
	}
}

func TestLoadOfStates(t *testing.T) { // P21.2: ErrCorrupt: the bytes of a state aren't those of the seed's behind From steps
	for _, kind := range kinds() {
		far := limit(kind)
		spans := []span.Span{sp(0, 4), sp(7, 7), between(by(far, -9), far)}
		loaded(t, "the seed's states", partsOf(kind, of, spans...).bytes())
		for i := range spans {
			for at := range stateBytes(kind, of, wide.Of(0)) {
				for _, by := range []byte{1, 128, 255} {
					p := partsOf(kind, of, spans...)
					p.laid[i].state[at] += by
					refused(t, "a state of which one byte is other", p.bytes())
				}
			}
			for _, steps := range []int64{-1, 1, 2, 8} {
				p := partsOf(kind, of, spans...)
				p.laid[i].state = stateBytes(kind, of, by(spans[i].From, steps))
				refused(t, "a state behind other steps", p.bytes())
			}
			for _, other := range []uint64{0, of + 1, of ^ 1<<63, top} {
				p := partsOf(kind, of, spans...)
				p.laid[i].state = stateBytes(kind, other, spans[i].From)
				refused(t, "another seed's state", p.bytes())
			}
			p := partsOf(kind, of, spans...)
			p.laid[i].state = stateBytes(kind, of, spans[i].To)
			if spans[i].From != spans[i].To {
				refused(t, "the state at To", p.bytes())
			}
			p = partsOf(kind, of, spans...)
			clear(p.laid[i].state)
			refused(t, "a state of zeros", p.bytes())
			p = partsOf(kind, of, spans...)
			p.laid[i].state, p.laid[(i+1)%3].state = p.laid[(i+1)%3].state, p.laid[i].state
			refused(t, "states in another order", p.bytes())
		}
	}
}

func TestLoadOfLastPart(t *testing.T) { // P21.2: what is wrong of the last one of 16 streams is found, too
	for _, kind := range kinds() {
		spans := []span.Span{}
		for i := range 16 {
			spans = append(spans, sp(uint64(3*i), uint64(3*i+3)))
		}
		loaded(t, "16 streams", partsOf(kind, of, spans...).bytes())
		wrong := func(what string, change func(p *parts, last *laid)) {
			p := partsOf(kind, of, spans...)
			change(&p, &p.laid[15])
			refused(t, what, p.bytes())
		}
		wrong("the last handle again", func(p *parts, last *laid) { last.handle = 14 })
		wrong("the last handle is Next", func(p *parts, last *laid) { last.handle = 16 })
		wrong("Next is too little", func(p *parts, last *laid) { p.next = 15 })
		wrong("the last span turned about", func(p *parts, last *laid) { last.span.To = wide.Of(44) })
		wrong("the last span too far", func(p *parts, last *laid) { last.span.To = by(limit(kind), 1) })
		wrong("the last span meets the first", func(p *parts, last *laid) {
			p.laid[0].span.To, last.span = wide.Of(1), sp(0, 1)
			last.state = p.laid[0].state
		})
		wrong("the last state", func(p *parts, last *laid) { last.state[len(last.state)-1] ^= 1 })
	}
}

func TestLoadOfAnyBytes(t *testing.T) { // P21.2, P21.3, W4: whatever bytes come, they are refused, or are just what Save tells
	r := rand.New(rand.NewPCG(21, 2))
	for _, kind := range kinds() {
		far := limit(kind)
		base := []parts{
			partsOf(kind, of), partsOf(kind, of, sp(3, 8)), partsOf(kind, of, sp(0, 5), sp(9, 12), sp(5, 9)), partsOf(kind, of, all(kind)),
			partsOf(kind, of, between(by(far, -300), far), sp(0, 300)).handled(1000, 3, 700),
		}
		told := [2]int{}
		for range 500 {
			b := base[r.IntN(len(base))].bytes()
			for range 1 + r.IntN(2) {
				at := r.IntN(len(b) - 4)
				if r.IntN(2) == 0 {
					// Where the head, the handles and the spans' low bytes are, some changes are right.
					at = 4 + r.IntN(min(len(b)-8, 40))
				}
				b[at] += byte(1 + r.IntN(3))
			}
			if judged(t, "bytes changed", resummed(b)) {
				told[0]++
			} else {
				told[1]++
			}
		}
		if told[0] < 20 || told[1] < 100 {
			t.Errorf("%d: %d are trees, %d not", kind, told[0], told[1])
		}
		for range 100 {
			b := make([]byte, r.IntN(400))
			for i := range b {
				b[i] = byte(r.Uint32())
			}
			refused(t, "any bytes", b)
			refused(t, "any bytes, summed", summed(append([]byte("KNK1"), b...)))
			if n := Size(kind, r.IntN(4)); len(b) >= n {
				b = append([]byte("KNK1"), b[4:n]...)
				b[4], b[17] = byte(kind), byte(r.IntN(4))
				judged(t, "a head of any bytes", resummed(b))
			}
		}
	}
}

func TestLoadOfAnySpans(t *testing.T) { // P21.2, P21.3: short spans, any of which may meet, and handles in any order
	r := rand.New(rand.NewPCG(21, 3))
	for _, kind := range kinds() {
		told := [2]int{}
		for range 300 {
			spans := make([]span.Span, r.IntN(5))
			for i := range spans {
				spans[i] = sp(r.Uint64N(12), r.Uint64N(12))
				if r.IntN(8) > 0 && spans[i].From.Lo > spans[i].To.Lo {
					spans[i].From, spans[i].To = spans[i].To, spans[i].From
				}
			}
			p := partsOf(kind, of, spans...)
			for i := range p.laid {
				if p.laid[i].handle *= 2; r.IntN(8) == 0 {
					p.laid[i].handle = r.Uint32N(10)
				}
			}
			p.next = uint32(2*len(spans)) + r.Uint32N(3) - min(1, uint32(len(spans)))
			if judged(t, "any spans", p.bytes()) {
				told[0]++
			} else {
				told[1]++
			}
		}
		if told[0] < 30 || told[1] < 100 {
			t.Errorf("%d: %d are trees, %d not", kind, told[0], told[1])
		}
	}
}

// act does something with a tree, by what is drawn; whether it is refused doesn't matter.
func act(tr *tree.Tree, r *rand.Rand) {
	h := r.IntN(tr.Next() + 1)
	switch r.IntN(9) {
	case 0, 1, 2:
		_, _ = tr.Split(h)
	case 3:
		_ = tr.Drop(h)
	case 4:
		_, _ = tr.Uint64(h)
	case 5:
		_, _ = tr.Fill(h, r.IntN(20))
	case 6:
		_, _ = tr.Bounded(h, r.Uint64())
	case 7:
		_ = tr.Skip(h, wide.U128{Hi: r.Uint64() >> r.IntN(64), Lo: r.Uint64() >> r.IntN(64)})
	case 8:
		if s, err := tr.Stream(h); err == api.OK {
			_ = tr.Skip(h, by(s.Left(), -int64(r.IntN(3))))
		}
	}
}

func TestWalks(t *testing.T) { // P21.1, P21.2, P21.3: behind splits, drops, words and skips in any order
	r := rand.New(rand.NewPCG(21, 4))
	for _, kind := range kinds() {
		for range 12 {
			tr := open(t, kind, r.Uint64())
			for range 6 {
				for range 1 + r.IntN(12) {
					act(tr, r)
				}
				want := ofTree(tr).bytes()
				b, err := Save(tr)
				if !bytes.Equal(b, want) || err != api.OK {
					t.Errorf("Save: %X, %v, not %X", b, err, want)
				}
				back := loaded(t, "behind a walk", b)
				alike(t, "behind a walk", back, tr)
				// What was restored goes on in the place of what was saved.
				if r.IntN(2) == 0 {
					tr = back
				}
			}
		}
	}
}

func TestLoadedAreApart(t *testing.T) { // P21.3, W3: whatever is loaded has allotments that don't meet, below Limit, and the seed's words there
	for _, kind := range kinds() {
		for _, g := range trees(t, kind, of) {
			b, err := Save(g.tr)
			must(t, err)
			tr := loaded(t, g.how, b)
			ahead := []span.Span{}
			for i, s := range tr.Spans() {
				if !mayBe(kind, s, ahead) {
					t.Errorf("%d, %s: the allotment %v, beside %v", kind, g.how, s, ahead)
				}
				ahead = append(ahead, s)
				if s.From == s.To {
					continue
				}
				want, err := seed.Some(kind, of, s.From, 1)
				must(t, err)
				if w, err := tr.Uint64(tr.Handles()[i]); w != want[0] || err != api.OK {
					t.Errorf("%d, %s: the word at %v: %X, %v, not %X", kind, g.how, s.From, w, err, want)
				}
			}
		}
	}
}
