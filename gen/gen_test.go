package gen

import (
	"encoding/binary"
	"math"
	"math/rand/v2"
	"slices"
	"testing"

	"knucklebone/api"
	"knucklebone/half"
	"knucklebone/mix"
	"knucklebone/pcg"
	"knucklebone/philox"
	"knucklebone/wide"
	"knucklebone/xjump"
	"knucklebone/xosh"
)

const (
	top    = math.MaxUint64
	topLow = math.MaxUint32
)

// most is 2^128 - 1, middle is 2^127.
var (
	most   = wide.U128{Hi: top, Lo: top}
	middle = wide.U128{Hi: 1 << 63}
)

// kinds tells all four.
func kinds() []int { return []int{api.Mix, api.Xosh, api.Pcg, api.Philox} }

// noKinds tells numbers that are no kind, some of which have a kind's lowest bits.
func noKinds() []int {
	l := []int{math.MinInt, math.MinInt + 1, -1 << 32, -256, -255, -4, -3, -2, -1, 0, 5, 6, 7, 8, 127, 128, 255, 256, math.MaxInt - 1, math.MaxInt}
	for _, k := range kinds() {
		l = append(l, k+256, k+1<<16, k+1<<32, k-256, k-1<<32, k+math.MinInt)
	}
	return l
}

// sizes tells how many bytes the state of a kind has.
func sizes(kind int) int { return []int{0, 9, 33, 33, 26}[kind] }

// numbers tells numbers at edges, round about powers of 2, and random ones.
func numbers() []wide.U128 {
	l := []wide.U128{{}, most, {Hi: top}, {Lo: top}, {Hi: 0x0F0E0D0C0B0A0908, Lo: 0x0706050403020100}}
	for i := range 128 {
		n := wide.Left(wide.Of(1), i)
		less, _ := wide.Sub(n, wide.Of(1))
		l = append(l, n, less, wide.U128{Hi: ^n.Hi, Lo: ^n.Lo})
	}
	r := rand.New(rand.NewPCG(13, 14))
	for range 40 {
		l = append(l, wide.U128{Hi: r.Uint64(), Lo: r.Uint64()}, wide.Of(r.Uint64()))
	}
	return l
}

// someNumbers tells each k-th of the numbers.
func someNumbers(k int) []wide.U128 {
	few := []wide.U128{}
	for i, n := range numbers() {
		if i%k == 0 {
			few = append(few, n)
		}
	}
	return few
}

// ofMix, ofXosh, ofPcg and ofPhilox tell a state of that kind.
func ofMix(s uint64) State           { return State{Kind: 1, Mix: s} }
func ofXosh(a, b, c, d uint64) State { return State{Kind: 2, Xosh: xosh.State{a, b, c, d}} }
func ofPcg(s, i wide.U128) State     { return State{Kind: 3, Pcg: pcg.State{S: s, I: i}} }
func ofPhilox(s half.State) State    { return State{Kind: 4, Philox: s} }
func counted(c wide.U128, k philox.Key, second bool) State {
	return ofPhilox(half.State{C: c, K: k, Second: second})
}

// ordered tells one state of each kind of which all bytes are distinct.
func ordered() []State {
	return []State{
		ofMix(0x0807060504030201),
		ofXosh(0x0807060504030201, 0x100F0E0D0C0B0A09, 0x1817161514131211, 0x201F1E1D1C1B1A19),
		ofPcg(wide.U128{Hi: 0x100F0E0D0C0B0A09, Lo: 0x0807060504030201}, wide.U128{Hi: 0x201F1E1D1C1B1A19, Lo: 0x1817161514131211}),
		counted(wide.U128{Hi: 0x100F0E0D0C0B0A09, Lo: 0x0807060504030201}, philox.Key{0x14131211, 0x18171615}, true),
	}
}

// right tells states of all kinds that may be.
func right() []State {
	l := append(ordered(), ofMix(0), ofXosh(1, 2, 3, 4), ofPcg(wide.U128{}, wide.Of(1)), ofPcg(most, most), ofPhilox(half.State{}), ofPhilox(half.State{Second: true}), counted(most, philox.Key{topLow, topLow}, true), counted(wide.U128{}, philox.Key{0, 1}, false))
	for i := range 4 {
		var x xosh.State
		x[i] = 1 << 63
		l = append(l, State{Kind: 2, Xosh: x})
		x[i] = 1
		l = append(l, State{Kind: 2, Xosh: x})
	}
	for i, n := range numbers() {
		odd := n
		odd.Lo |= 1
		k := philox.Key{uint32(n.Lo >> 32), uint32(n.Hi)}
		l = append(l, ofMix(n.Lo), ofXosh(n.Lo, ^n.Hi, n.Hi, 1), ofPcg(n, wide.Of(1)), ofPcg(wide.U128{Hi: n.Lo, Lo: n.Hi}, odd), counted(n, k, i%2 == 1))
	}
	return l
}

// few tells each k-th of the states that may be, and one of each kind.
func few(k int) []State {
	l := ordered()
	for i, s := range right() {
		if i%k == 0 {
			l = append(l, s)
		}
	}
	return l
}

// wrong is a state that may not be, and why.
type wrong struct {
	s    State
	want api.Errno
}

// strangers tells what a state may wrongly have of other kinds, by the kind whose it is.
func strangers() map[int][]func(s State) State {
	return map[int][]func(s State) State{
		api.Mix: {
			func(s State) State { s.Mix = 1; return s },
			func(s State) State { s.Mix = 1 << 63; return s },
		},
		api.Xosh: {
			func(s State) State { s.Xosh = xosh.State{1, 0, 0, 0}; return s },
			func(s State) State { s.Xosh = xosh.State{0, 1, 0, 0}; return s },
			func(s State) State { s.Xosh = xosh.State{0, 0, 1 << 63, 0}; return s },
			func(s State) State { s.Xosh = xosh.State{0, 0, 0, 1 << 63}; return s },
		},
		api.Pcg: {
			func(s State) State { s.Pcg = pcg.State{I: wide.Of(1)}; return s },
			func(s State) State { s.Pcg = pcg.State{I: wide.U128{Hi: 1 << 63}}; return s },
			func(s State) State { s.Pcg = pcg.State{S: wide.Of(1)}; return s },
			func(s State) State { s.Pcg = pcg.State{S: wide.U128{Hi: 2}}; return s },
		},
		api.Philox: {
			func(s State) State { s.Philox.C = wide.Of(1); return s },
			func(s State) State { s.Philox.C = wide.U128{Hi: 1}; return s },
			func(s State) State { s.Philox.K = philox.Key{1, 0}; return s },
			func(s State) State { s.Philox.K = philox.Key{0, 1}; return s },
			func(s State) State { s.Philox.Second = true; return s },
		},
	}
}

// wrongs tells states of no kind, with others zero and not, and states of a kind that may not be.
func wrongs() []wrong {
	l := []wrong{
		{ofXosh(0, 0, 0, 0), api.ErrState},
		{ofPcg(wide.U128{}, wide.U128{}), api.ErrState},
		{ofPcg(wide.Of(1), wide.U128{}), api.ErrState},
		{ofPcg(wide.Of(1), wide.Of(2)), api.ErrState},
		{ofPcg(most, wide.U128{Hi: 1}), api.ErrState},
		{ofPcg(middle, wide.U128{Hi: top, Lo: top - 1}), api.ErrState},
	}
	all := right()
	for i, k := range noKinds() {
		s := all[i*7%len(all)]
		s.Kind = k
		l = append(l, wrong{State{Kind: k}, api.ErrKind}, wrong{s, api.ErrKind})
	}
	for _, s := range few(31) {
		for kind, puts := range strangers() {
			for _, put := range puts {
				if kind != s.Kind {
					l = append(l, wrong{put(s), api.ErrState})
				}
			}
		}
	}
	for kind, puts := range strangers() {
		for _, own := range kinds() {
			if kind != own {
				// All zero, but for what another kind has.
				l = append(l, wrong{puts[0](State{Kind: own}), api.ErrState})
			}
		}
	}
	return l
}

// word tells the word of a state that may be, by its kind's chapter.
func word(s State) uint64 {
	return []func() uint64{
		func() uint64 { return mix.Word(s.Mix) },
		func() uint64 { return xosh.Word(s.Xosh) },
		func() uint64 { return pcg.Word(s.Pcg) },
		func() uint64 { return half.Word(s.Philox) },
	}[s.Kind-1]()
}

// next tells the next state of one that may be, by its kind's chapter.
func next(s State) State {
	return []func() State{
		func() State { return ofMix(mix.Step(s.Mix)) },
		func() State { return State{Kind: 2, Xosh: xosh.Step(s.Xosh)} },
		func() State { return State{Kind: 3, Pcg: pcg.Step(s.Pcg)} },
		func() State { return ofPhilox(half.Step(s.Philox)) },
	}[s.Kind-1]()
}

// behind tells the state behind so many steps from one that may be, by its kind's chapter.
func behind(s State, n wide.U128) State {
	return []func() State{
		func() State { return ofMix(mix.Jump(s.Mix, n)) },
		func() State { far, _ := xjump.Jump(s.Xosh, n); return State{Kind: 2, Xosh: far} },
		func() State { far, _ := pcg.Jump(s.Pcg, n); return State{Kind: 3, Pcg: far} },
		func() State { return ofPhilox(half.Jump(s.Philox, n)) },
	}[s.Kind-1]()
}

// put tells the bytes of a state that may be, by the chapter's words.
func put(s State) []byte {
	le, b := binary.LittleEndian, []byte{byte(s.Kind)}
	switch s.Kind {
	case api.Mix:
		return le.AppendUint64(b, s.Mix)
	case api.Xosh:
		for _, w := range s.Xosh {
			b = le.AppendUint64(b, w)
		}
		return b
	case api.Pcg:
		for _, w := range []uint64{s.Pcg.S.Lo, s.Pcg.S.Hi, s.Pcg.I.Lo, s.Pcg.I.Hi} {
			b = le.AppendUint64(b, w)
		}
		return b
	}
	b = le.AppendUint64(le.AppendUint64(b, s.Philox.C.Lo), s.Philox.C.Hi)
	b = le.AppendUint32(le.AppendUint32(b, s.Philox.K[0]), s.Philox.K[1])
	if s.Philox.Second {
		return append(b, 1)
	}
	return append(b, 0)
}

// take tells what Take does, by the chapter's words.
func take(b []byte) (State, int, api.Errno) {
	if len(b) == 0 {
		return State{}, 0, api.ErrForm
	}
	kind := int(b[0])
	if kind < 1 || kind > 4 {
		return State{}, 0, api.ErrKind
	}
	many := sizes(kind)
	if len(b) < many || kind == api.Philox && b[many-1] > 1 {
		return State{}, 0, api.ErrForm
	}
	le := binary.LittleEndian
	w := func(i int) uint64 { return le.Uint64(b[1+8*i:]) }
	s := State{Kind: kind}
	switch kind {
	case api.Mix:
		s.Mix = w(0)
	case api.Xosh:
		s.Xosh = xosh.State{w(0), w(1), w(2), w(3)}
	case api.Pcg:
		s.Pcg = pcg.State{S: wide.U128{Hi: w(1), Lo: w(0)}, I: wide.U128{Hi: w(3), Lo: w(2)}}
	case api.Philox:
		k := philox.Key{le.Uint32(b[17:]), le.Uint32(b[21:])}
		s.Philox = half.State{C: wide.U128{Hi: w(1), Lo: w(0)}, K: k, Second: b[25] == 1}
	}
	if s.Kind == api.Xosh && s.Xosh == (xosh.State{}) || s.Kind == api.Pcg && s.Pcg.I.Lo%2 == 0 {
		return State{}, 0, api.ErrState
	}
	return s, many, api.OK
}

func TestCheck(t *testing.T) { // P13.1: those that may be, of Mix and Philox any
	for _, s := range right() {
		if err := Check(s); err != api.OK {
			t.Errorf("Check(%v): %v", s, err)
		}
	}
}

func TestCheckRefuses(t *testing.T) { // P13.1: kinds that are none, whatever else there is; others not zero; all 0; an even I
	found := map[api.Errno]int{}
	for _, w := range wrongs() {
		if err := Check(w.s); err != w.want {
			t.Errorf("Check(%v): %v, not %v", w.s, err, w.want)
		}
		found[w.want]++
	}
	if found[api.ErrKind] < 50 || found[api.ErrState] < 500 {
		t.Errorf("too few states: %v", found)
	}
}

func TestCheckStrangers(t *testing.T) { // P13.1: each number of each other kind alone
	for _, s := range ordered() {
		for kind, puts := range strangers() {
			for i, put := range puts {
				if err := Check(put(s)); kind != s.Kind && err != api.ErrState {
					t.Errorf("Check of the kind %d with the number %d of the kind %d: %v", s.Kind, i, kind, err)
				}
				none := put(s)
				none.Kind = 0
				if err := Check(none); err != api.ErrKind {
					t.Errorf("Check(%v): %v", none, err)
				}
			}
		}
	}
}

func TestLimit(t *testing.T) { // P13.1: of each kind, and of none
	for i, want := range []wide.U128{{Lo: 1 << 63}, {Hi: 1 << 63}, {Hi: 1 << 63}, {Hi: 1 << 63}} {
		if got := Limit(kinds()[i]); got != want {
			t.Errorf("Limit(%d): %x", kinds()[i], got)
		}
	}
	for _, k := range noKinds() {
		if got := Limit(k); got != (wide.U128{}) {
			t.Errorf("Limit(%d): %x", k, got)
		}
	}
}

func TestWordAndStep(t *testing.T) { // P13.1: by the kinds' chapters; other kinds stay zero
	for _, s := range right() {
		if got, want := Word(s), word(s); got != want {
			t.Errorf("Word(%v): %X, not %X", s, got, want)
		}
		if got, want := Step(s), next(s); got != want {
			t.Errorf("Step(%v): %v, not %v", s, got, want)
		}
	}
}

// known is a state, its first words, and the state behind them.
type known struct {
	from  State
	words []uint64
	end   State
}

// samples tells the chapters' examples, and what is published of the generators.
func samples() []known {
	k := philox.Key{0xA4093822, 0x299F31D0}
	i := wide.U128{Hi: 0x418DDADB3AF71A82, Lo: 0x588133BC447873A9}
	return []known{
		{ofMix(0), []uint64{0xE220A8397B1DCDAF, 0x6E789E6AA1B965F4}, ofMix(0x3C6EF372FE94F82A)},
		{ofXosh(1, 2, 3, 4), []uint64{11520}, ofXosh(7, 0, 262146, 6<<45)},
		{ofPcg(wide.Of(0), wide.Of(1)), []uint64{0}, ofPcg(wide.Of(1), wide.Of(1))},
		{ofPcg(wide.U128{Hi: 0x1AA1B5345996452D, Lo: 0x09585EB7A69561E3}, i), []uint64{0xD97E4A147F788A70, 0x8DFA7BCE56E3A253, 0x13556ED9F53D3C10, 0x55DBF1C241341E98, 0xA2CD98F722EB0E0A, 0x83DFC407203ADE8}, ofPcg(wide.U128{Hi: 0x2E2453FE1CEC6DF3, Lo: 0x2BE902EEFCE8F53D}, i)},
		{ofPhilox(half.State{}), []uint64{0xE169C58D6627E8D5, 0x9B00DBD8BC57AC4C}, ofPhilox(half.State{C: wide.Of(1)})},
		{counted(most, philox.Key{topLow, topLow}, false), []uint64{0x41C83B0E408F276D, 0x6D5451FDA20BC7C6}, counted(wide.U128{}, philox.Key{topLow, topLow}, false)},
		{counted(wide.U128{Hi: 0x0370734413198A2E, Lo: 0x85A308D3243F6A88}, k, true), []uint64{0x24126EA15001E420}, counted(wide.U128{Hi: 0x0370734413198A2E, Lo: 0x85A308D3243F6A89}, k, false)},
	}
}

func TestPublished(t *testing.T) { // P13.1, P13.2: of each kind
	for _, c := range samples() {
		s := c.from
		for _, w := range c.words {
			if got := Word(s); got != w {
				t.Errorf("Word(%v): %X, not %X", s, got, w)
			}
			s = Step(s)
		}
		if s != c.end {
			t.Errorf("steps from %v on: %v, not %v", c.from, s, c.end)
		}
		many := len(c.words)
		if got, end, err := Words(c.from, many); !slices.Equal(got, c.words) || end != c.end || err != api.OK {
			t.Errorf("Words(%v, %d): %X, %v, %v", c.from, many, got, end, err)
		}
		if got, err := Jump(c.from, wide.Of(uint64(many))); got != c.end || err != api.OK {
			t.Errorf("Jump(%v, %d): %v, %v", c.from, many, got, err)
		}
	}
	if got, end, err := Words(ofXosh(1, 2, 3, 4), 3); !slices.Equal(got, []uint64{11520, 0, 1509978240}) || end.Kind != api.Xosh || err != api.OK {
		t.Errorf("words of 1 2 3 4: %d, %v, %v", got, end, err)
	}
}

func TestWordAndStepRefuse(t *testing.T) { // P13.1: 0, and the state itself
	for _, w := range wrongs() {
		if got := Word(w.s); got != 0 {
			t.Errorf("Word(%v): %X", w.s, got)
		}
		if got := Step(w.s); got != w.s {
			t.Errorf("Step(%v): %v", w.s, got)
		}
	}
}

// jumped is a state, so many steps, and the state behind them.
type jumped struct {
	from State
	n    wide.U128
	to   State
}

// jumps tells jumps at edges, of which it is known where they lead.
func jumps() []jumped {
	i := wide.U128{Hi: 0x418DDADB3AF71A82, Lo: 0x588133BC447873A9}
	g := ofPcg(wide.U128{Hi: 0x1AA1B5345996452D, Lo: 0x09585EB7A69561E3}, i)
	k, two := philox.Key{7, 8}, wide.U128{Hi: 1}
	return []jumped{
		{ofMix(5), two, ofMix(5)},
		{ofMix(5), middle, ofMix(5)},
		{ofMix(5), wide.Of(1 << 63), ofMix(5 + 1<<63)},
		{ofMix(5), most, ofMix(mix.Back(5))},
		{ofMix(5), wide.U128{Hi: 9, Lo: 1}, ofMix(mix.Step(5))},
		{g, two, ofPcg(wide.U128{Hi: 0xC39EBA010CF32B90, Lo: 0x09585EB7A69561E3}, i)},
		{g, most, ofPcg(wide.U128{Hi: 0x61838A90D900D334, Lo: 0xBBEC6E1806F85B92}, i)},
		{g, wide.U128{Hi: 0x0123456789ABCDEF, Lo: 0xFEDCBA9876543210}, ofPcg(wide.U128{Hi: 0x485905CD845C4A1F, Lo: 0x0397B6B72E80C013}, i)},
		{g, middle, ofPcg(wide.U128{Hi: 0x9AA1B5345996452D, Lo: 0x09585EB7A69561E3}, i)},
		{counted(wide.U128{}, k, false), two, counted(wide.Of(1<<63), k, false)},
		{counted(wide.U128{}, k, true), two, counted(wide.Of(1<<63), k, true)},
		{counted(wide.U128{}, k, true), middle, counted(wide.U128{Hi: 1 << 62}, k, true)},
		{counted(wide.U128{}, k, false), most, counted(wide.U128{Hi: 1<<63 - 1, Lo: top}, k, true)},
		{counted(wide.U128{}, k, true), most, counted(middle, k, false)},
		{counted(most, k, true), wide.Of(1), counted(wide.U128{}, k, false)},
	}
}

func TestJumpEdges(t *testing.T) { // P13.2: by 0, 1, 2^64, 2^127 and the greatest number
	for _, j := range jumps() {
		if got, err := Jump(j.from, j.n); got != j.to || err != api.OK {
			t.Errorf("Jump(%v, %x): %v, %v, not %v", j.from, j.n, got, err, j.to)
		}
	}
	for _, s := range few(19) {
		if got, err := Jump(s, wide.U128{}); got != s || err != api.OK {
			t.Errorf("Jump(%v, 0): %v, %v", s, got, err)
		}
		if got, err := Jump(s, wide.Of(1)); got != Step(s) || err != api.OK {
			t.Errorf("Jump(%v, 1): %v, %v", s, got, err)
		}
	}
}

func TestJumpXoshFar(t *testing.T) { // P13.2: 2^64 and 2^127 steps, and as many less 1, by powers of 2
	for _, s := range few(19) {
		if s.Kind != api.Xosh {
			continue
		}
		for _, n := range []int{0, 1, 63, 64, 127} {
			far, _ := xjump.Powers(s.Xosh, n)
			steps := wide.Left(wide.Of(1), n)
			if got, err := Jump(s, steps); got != (State{Kind: 2, Xosh: far}) || err != api.OK {
				t.Errorf("Jump(%v, 2^%d): %v, %v", s, n, got, err)
			}
			less, _ := wide.Sub(steps, wide.Of(1))
			if got, err := Jump(s, less); got != (State{Kind: 2, Xosh: xosh.Back(far)}) || err != api.OK {
				t.Errorf("Jump(%v, 2^%d less 1): %v, %v", s, n, got, err)
			}
		}
		far, _ := xjump.Powers(s.Xosh, 128)
		if got, err := Jump(s, most); got != (State{Kind: 2, Xosh: xosh.Back(far)}) || err != api.OK {
			t.Errorf("Jump(%v, 2^128 less 1): %v, %v", s, got, err)
		}
	}
}

func TestJump(t *testing.T) { // P13.2: by the kinds' chapters
	for _, s := range few(97) {
		for _, n := range someNumbers(11) {
			if got, err := Jump(s, n); got != behind(s, n) || err != api.OK {
				t.Errorf("Jump(%v, %x): %v, %v", s, n, got, err)
			}
		}
	}
}

func TestJumpsAreSteps(t *testing.T) { // P13.2: of few steps, against single ones
	for _, from := range few(397) {
		s := from
		for n := range uint64(300) {
			if got, err := Jump(from, wide.Of(n)); got != s || err != api.OK {
				t.Fatalf("Jump(%v, %d): %v, %v, not %v", from, n, got, err, s)
			}
			s = Step(s)
		}
	}
}

func TestJumpRefuses(t *testing.T) { // P13.2: the zero one, Check's error
	for _, w := range wrongs() {
		for _, n := range []wide.U128{{}, wide.Of(1), {Hi: 1}, middle, most} {
			if got, err := Jump(w.s, n); got != (State{}) || err != w.want {
				t.Errorf("Jump(%v, %x): %v, %v, not %v", w.s, n, got, err, w.want)
			}
		}
	}
}

func TestWords(t *testing.T) { // P13.2: one a state, from s on, and the state behind them
	for i, from := range right() {
		many := []int{0, 1, 2, 3, 255, api.MostWords}[i%6]
		s, want := from, []uint64{}
		for range many {
			want = append(want, word(s))
			s = next(s)
		}
		if got, end, err := Words(from, many); !slices.Equal(got, want) || end != s || err != api.OK {
			t.Errorf("Words(%v, %d): %X, %v, %v", from, many, got, end, err)
		}
	}
}

func TestWordsOneByOne(t *testing.T) { // P13.2: of so many, for each that may be, against Word and Step
	for _, from := range few(97) {
		s, ones := from, []uint64{}
		for many := range api.MostWords + 1 {
			if got, end, err := Words(from, many); !slices.Equal(got, ones) || end != s || err != api.OK {
				t.Fatalf("Words(%v, %d): %X, %v, %v", from, many, got, end, err)
			}
			ones, s = append(ones, Word(s)), Step(s)
		}
	}
}

// outside tells numbers that aren't from 0 to MostWords.
func outside() []int {
	return []int{math.MinInt, -1 << 32, -api.MostWords, -2, -1, api.MostWords + 1, api.MostWords + 2, 2 * api.MostWords, 1 << 32, 1<<32 + 1, math.MaxInt}
}

func TestWordsRefuses(t *testing.T) { // P13.2: none, the zero one, Check's error ahead of ErrArg
	for _, s := range few(7) {
		for _, many := range outside() {
			if got, end, err := Words(s, many); len(got) != 0 || end != (State{}) || err != api.ErrArg {
				t.Errorf("Words(%v, %d): %X, %v, %v", s, many, got, end, err)
			}
		}
	}
	for _, w := range wrongs() {
		for _, many := range append(outside(), 0, 1, 2, api.MostWords) {
			if got, end, err := Words(w.s, many); len(got) != 0 || end != (State{}) || err != w.want {
				t.Errorf("Words(%v, %d): %X, %v, %v, not %v", w.s, many, got, end, err, w.want)
			}
		}
	}
}

// written is a state, and its bytes.
type written struct {
	s State
	b []byte
}

// rows tells so many bytes that rise from 1 on, behind a kind's.
func rows(kind byte, many int) []byte {
	b := []byte{kind}
	for i := range many {
		b = append(b, byte(i+1))
	}
	return b
}

// spelt tells states and bytes that are written out: the example, and of each kind one whose bytes rise.
func spelt() []written {
	o := ordered()
	last := o[3]
	last.Philox.Second = false
	return []written{
		{ofMix(258), []byte{1, 2, 1, 0, 0, 0, 0, 0, 0}},
		{ofMix(0), append([]byte{1}, make([]byte, 8)...)},
		{o[0], rows(1, 8)},
		{o[1], rows(2, 32)},
		{o[2], rows(3, 32)},
		{o[3], append(rows(4, 24), 1)},
		{last, append(rows(4, 24), 0)},
		{ofPhilox(half.State{Second: true}), append(append([]byte{4}, make([]byte, 24)...), 1)},
	}
}

func TestPut(t *testing.T) { // P13.3: each number with the lowest byte first, and how many bytes there are
	for _, w := range spelt() {
		if got, err := Put(w.s); !slices.Equal(got, w.b) || err != api.OK {
			t.Errorf("Put(%v): %v, %v, not %v", w.s, got, err, w.b)
		}
		if got, many, err := Take(w.b); got != w.s || many != len(w.b) || err != api.OK {
			t.Errorf("Take(%v): %v, %d, %v, not %v", w.b, got, many, err, w.s)
		}
	}
	for _, s := range right() {
		if got, err := Put(s); !slices.Equal(got, put(s)) || len(got) != sizes(s.Kind) || err != api.OK {
			t.Errorf("Put(%v): %v, %v, not %v", s, got, err, put(s))
		}
	}
}

func TestPutRefuses(t *testing.T) { // P13.3: none, Check's error
	for _, w := range wrongs() {
		if got, err := Put(w.s); len(got) != 0 || err != w.want {
			t.Errorf("Put(%v): %v, %v, not %v", w.s, got, err, w.want)
		}
	}
}

// refused tells whether Take refuses bytes by that error, and tells nothing else.
func refused(t *testing.T, b []byte, want api.Errno) {
	t.Helper()
	if s, many, err := Take(b); s != (State{}) || many != 0 || err != want {
		t.Errorf("Take(%v): %v, %d, %v, not %v", b, s, many, err, want)
	}
}

func TestTakeRefusesKinds(t *testing.T) { // P13.3: nothing; first bytes that are no kind, with few and many behind
	refused(t, nil, api.ErrForm)
	refused(t, []byte{}, api.ErrForm)
	for first := range 256 {
		want := api.ErrKind
		if first >= 1 && first <= 4 {
			want = api.ErrForm
		}
		refused(t, []byte{byte(first)}, want)
		for _, many := range []int{1, 7, 8, 9, 24, 25, 26, 32, 33, 300} {
			if want == api.ErrKind {
				refused(t, rows(byte(first), many), want)
			}
		}
	}
}

func TestTakeLengths(t *testing.T) { // P13.3: with bytes fewer, with just so many, and with others behind
	for _, s := range few(41) {
		b, size := put(s), sizes(s.Kind)
		for many := 1; many < size; many++ {
			refused(t, b[:many], api.ErrForm)
		}
		for _, more := range [][]byte{nil, {0}, {1}, {255}, b, make([]byte, 300)} {
			got, many, err := Take(append(slices.Clone(b), more...))
			if got != s || many != size || err != api.OK {
				t.Errorf("Take of the bytes of %v and %d more: %v, %d, %v", s, len(more), got, many, err)
			}
		}
	}
}

func TestTakeSecond(t *testing.T) { // P13.3: of Philox, the last byte is 0 or 1, whatever is behind
	for last := range 256 {
		for _, more := range [][]byte{nil, {0}, {1, 1}} {
			b := append(append(rows(4, 24), byte(last)), more...)
			if last > 1 {
				refused(t, b, api.ErrForm)
				continue
			}
			want := ordered()[3]
			want.Philox.Second = last == 1
			if got, many, err := Take(b); got != want || many != 26 || err != api.OK {
				t.Errorf("Take(%v): %v, %d, %v", b, got, many, err)
			}
		}
	}
}

func TestTakeStates(t *testing.T) { // P13.3: of Xosh all zero, of Pcg an even I; ErrForm ahead, where bytes are too few
	for _, more := range []int{0, 1, 300} {
		refused(t, append([]byte{2}, make([]byte, 32+more)...), api.ErrState)
		refused(t, append([]byte{3}, make([]byte, 32+more)...), api.ErrState)
	}
	for many := range 32 {
		refused(t, append([]byte{2}, make([]byte, many)...), api.ErrForm)
		refused(t, append([]byte{3}, make([]byte, many)...), api.ErrForm)
	}
	for at := 1; at <= 32; at++ {
		for bit := range 8 {
			b := make([]byte, 33)
			b[0], b[at] = 2, 1<<bit
			if got, many, err := Take(b); Check(got) != api.OK || many != 33 || err != api.OK {
				t.Errorf("Take(%v): %v, %d, %v", b, got, many, err)
			}
			b[0] = 3
			// The lowest bit of I is that of byte 17.
			if at == 17 && bit == 0 {
				if got, many, err := Take(b); got != ofPcg(wide.U128{}, wide.Of(1)) || many != 33 || err != api.OK {
					t.Errorf("Take(%v): %v, %d, %v", b, got, many, err)
				}
				continue
			}
			refused(t, b, api.ErrState)
		}
	}
	// Beyond the bytes of all zero there is nothing that counts.
	refused(t, append(append([]byte{2}, make([]byte, 32)...), 1, 1, 1), api.ErrState)
	refused(t, append(append([]byte{3}, make([]byte, 32)...), 1, 1, 1), api.ErrState)
}

func TestTakeAny(t *testing.T) { // P13.3, P13.4: random bytes, against the chapter's words; Put behind Take
	r := rand.New(rand.NewPCG(15, 16))
	found := map[api.Errno]int{}
	for range 40000 {
		b := make([]byte, r.IntN(45))
		for i := range b {
			// Many zero ones, so that there are states that may not be.
			b[i] = byte(r.Uint32()) * byte(r.UintN(2))
		}
		if len(b) > 0 {
			b[0] = byte(r.UintN(6))
		}
		if len(b) > 25 && b[0] == 4 {
			b[25] = byte(r.UintN(4))
		}
		if len(b) > 32 && r.UintN(8) == 0 {
			clear(b[1:33])
		}
		want, wantMany, wantErr := take(b)
		got, many, err := Take(b)
		if got != want || many != wantMany || err != wantErr {
			t.Fatalf("Take(%v): %v, %d, %v, not %v, %d, %v", b, got, many, err, want, wantMany, wantErr)
		}
		found[err]++
		if err != api.OK {
			continue
		}
		if again, err := Put(got); !slices.Equal(again, b[:many]) || err != api.OK {
			t.Fatalf("Put behind Take of %v: %v, %v", b, again, err)
		}
	}
	for _, e := range []api.Errno{api.OK, api.ErrForm, api.ErrKind, api.ErrState} {
		if found[e] < 500 {
			t.Errorf("only %d answers %v", found[e], e)
		}
	}
}

func TestTakeBehindPut(t *testing.T) { // P13.4: states come back from their bytes
	for _, s := range right() {
		b, err := Put(s)
		if err != api.OK {
			t.Fatalf("Put(%v): %v", s, err)
		}
		if got, many, err := Take(b); got != s || many != len(b) || err != api.OK {
			t.Errorf("Take behind Put of %v: %v, %d, %v", s, got, many, err)
		}
	}
}

func TestDistinctBytes(t *testing.T) { // P13.4: distinct states have distinct bytes, and none begin with another's
	from := map[string]State{}
	for _, s := range right() {
		b, _ := Put(s)
		if other, twice := from[string(b)]; twice && other != s {
			t.Errorf("%v and %v have the bytes %v", s, other, b)
		}
		from[string(b)] = s
	}
}

func TestJumpsAddUp(t *testing.T) { // P13.4: where their sum is below 2^128, and Check of what they lead to
	pairs, all := 0, numbers()
	for i, s := range few(61) {
		for j := range 25 {
			a, b := all[(37*i+11*j)%len(all)], all[(53*i+17*j+5)%len(all)]
			sum, over := wide.Add(a, b)
			if over {
				continue
			}
			pairs++
			first, _ := Jump(s, a)
			got, err := Jump(first, b)
			if want, _ := Jump(s, sum); got != want || err != api.OK || Check(first) != api.OK || Check(got) != api.OK {
				t.Errorf("from %v on, by %x, then %x: %v, %v, not %v", s, a, b, got, err, want)
			}
		}
	}
	if pairs < 200 {
		t.Errorf("only %d pairs", pairs)
	}
}

func TestWordsAndJumpsAgree(t *testing.T) { // P13.2, P13.4: words at once, in parts, and behind jumps
	for i, s := range few(29) {
		part := i * 23 % (api.MostWords + 1)
		all, end, _ := Words(s, api.MostWords)
		first, between, _ := Words(s, part)
		jumped, _ := Jump(s, wide.Of(uint64(part)))
		second, last, _ := Words(jumped, api.MostWords-part)
		if len(all) != api.MostWords || between != jumped || end != last || !slices.Equal(all, append(first, second...)) {
			t.Errorf("Words of %v at once, and %d of them ahead: %v, %v, %v, %v", s, part, between, jumped, end, last)
		}
	}
}

func TestDistinctStates(t *testing.T) { // P13.4: below Limit, of distinct numbers of steps
	for _, s := range ordered() {
		limit := Limit(s.Kind)
		last, _ := wide.Sub(limit, wide.Of(1))
		steps := map[wide.U128]bool{{}: true, last: true}
		for n := range uint64(40) {
			less, _ := wide.Sub(last, wide.Of(n))
			steps[wide.Of(n)], steps[less] = true, true
		}
		for _, n := range numbers() {
			if wide.Cmp(n, limit) < 0 {
				steps[n] = true
			}
		}
		reached := map[State]wide.U128{}
		for n := range steps {
			far, err := Jump(s, n)
			if other, twice := reached[far]; twice || err != api.OK {
				t.Fatalf("from %v on, %x and %x steps lead to %v, %v", s, n, other, far, err)
			}
			reached[far] = n
		}
		if len(reached) < 150 {
			t.Errorf("of the kind %d only %d numbers of steps", s.Kind, len(reached))
		}
	}
}

// answers is all that the package answers of a state, a number of steps, one of words, and bytes, but its lists.
type answers struct {
	check, jumped, told, written, read api.Errno
	word                               uint64
	next, far, end, taken              State
	bytes                              int
	limit                              wide.U128
}

// ask tells all answers, and the lists of words and of bytes.
func ask(s *State, n *wide.U128, many *int, b []byte) (answers, []uint64, []byte) {
	far, jumped := Jump(*s, *n)
	words, end, told := Words(*s, *many)
	row, written := Put(*s)
	taken, bytes, read := Take(b)
	return answers{Check(*s), jumped, told, written, read, Word(*s), Step(*s), far, end, taken, bytes, Limit(s.Kind)}, words, row
}

// spoil changes all that a list has, beyond its length too.
func spoil[T uint64 | byte](l []T) {
	for i := range l[:cap(l)] {
		l[:cap(l)][i] += 77
	}
}

func TestSameCallsSameAnswers(t *testing.T) { // P13.1 to P13.3: R3 to R5; each list is one of its own
	all := few(23)
	for _, w := range wrongs()[:60] {
		all = append(all, w.s)
	}
	for i, s := range all {
		b := put(ordered()[i%4])
		for _, many := range []int{-1, 0, 1, 9, api.MostWords, api.MostWords + 1} {
			a, n, m, kept := s, wide.U128{Hi: uint64(i) << 50, Lo: ^uint64(i)}, many, slices.Clone(b)
			other := all[len(all)-1-i]
			keptSteps, keptOther := n, other
			first, words, row := ask(&a, &n, &m, b)
			keptWords, keptRow := slices.Clone(words), slices.Clone(row)
			spoil(words)
			spoil(row)
			ask(&other, &n, &m, put(ordered()[(i+1)%4]))
			again, wordsAgain, rowAgain := ask(&a, &n, &m, b)
			if again != first || !slices.Equal(wordsAgain, keptWords) || !slices.Equal(rowAgain, keptRow) {
				t.Errorf("%v, %x, %d: %v, %X, %v, then %v, %X, %v", s, n, many, first, keptWords, keptRow, again, wordsAgain, rowAgain)
			}
			if a != s || n != keptSteps || m != many || other != keptOther || !slices.Equal(b, kept) {
				t.Errorf("an argument was changed: %v, %x, %d, %v, %v", a, n, m, other, b)
			}
		}
	}
}

func TestTakeKeepsNothing(t *testing.T) { // P13.3: R3: not a byte is changed, nor one behind, and the state doesn't hang on them
	for _, s := range ordered() {
		b := append(put(s), 9, 8, 7)
		kept := slices.Clone(b)
		got, _, _ := Take(b[:sizes(s.Kind)])
		if !slices.Equal(b, kept) {
			t.Errorf("Take changed %v to %v", kept, b)
		}
		spoil(b)
		if got != s {
			t.Errorf("%v became %v", s, got)
		}
	}
}
