package gen

import (
	"knucklebone/api"
	"knucklebone/half"
	"knucklebone/mix"
	"knucklebone/pcg"
	"knucklebone/philox"
	"knucklebone/wide"
	"knucklebone/xjump"
	"knucklebone/xosh"
)

const (
	keyBytes  = 4
	wordBytes = 8
	wideBytes = 16
	// Limits are powers of 2, of these numbers.
	mixLimit = 63
	farLimit = 127
)

// part is what a state has of its kind; only one that is right jumps.
type part interface {
	right() bool
	limit() int
	word() uint64
	step() part
	jump(n wide.U128) part
	// put tells its bytes, without that of the kind.
	put() []byte
	// take tells the part of just as many bytes, whatever part is asked, and whether they are one's.
	take(b []byte) (part, bool)
}

type (
	mixPart    uint64
	xoshPart   xosh.State
	pcgPart    pcg.State
	philoxPart half.State
)

// partOf tells a state's part; there is none, if it is of no kind.
func partOf(s State) part {
	switch s.Kind {
	case api.Mix:
		return mixPart(s.Mix)
	case api.Xosh:
		return xoshPart(s.Xosh)
	case api.Pcg:
		return pcgPart(s.Pcg)
	case api.Philox:
		return philoxPart(s.Philox)
	}
	return nil
}

// whole tells the state of a part.
func whole(p part) State {
	switch x := p.(type) {
	case mixPart:
		return State{Kind: api.Mix, Mix: uint64(x)}
	case xoshPart:
		return State{Kind: api.Xosh, Xosh: xosh.State(x)}
	case pcgPart:
		return State{Kind: api.Pcg, Pcg: pcg.State(x)}
	case philoxPart:
		return State{Kind: api.Philox, Philox: half.State(x)}
	}
	return State{}
}

// low tells a number's lowest bytes, the lowest one first.
func low(n uint64, many int) []byte { return wide.Put(wide.Of(n))[:many] }

// number tells the number of up to 16 bytes, the lowest one first.
func number(b []byte) wide.U128 {
	all := make([]byte, wideBytes)
	copy(all, b)
	// So many are never refused.
	n, _ := wide.Take(all)
	return n
}

func (p mixPart) right() bool           { return true }
func (p mixPart) limit() int            { return mixLimit }
func (p mixPart) word() uint64          { return mix.Word(uint64(p)) }
func (p mixPart) step() part            { return mixPart(mix.Step(uint64(p))) }
func (p mixPart) jump(n wide.U128) part { return mixPart(mix.Jump(uint64(p), n)) }
func (p mixPart) put() []byte           { return low(uint64(p), wordBytes) }

func (p mixPart) take(b []byte) (part, bool) { return mixPart(number(b).Lo), true }

func (p xoshPart) right() bool  { return xosh.Right(xosh.State(p)) }
func (p xoshPart) limit() int   { return farLimit }
func (p xoshPart) word() uint64 { return xosh.Word(xosh.State(p)) }
func (p xoshPart) step() part   { return xoshPart(xosh.Step(xosh.State(p))) }

func (p xoshPart) jump(n wide.U128) part {
	// Only one that is not right would be refused.
	far, _ := xjump.Jump(xosh.State(p), n)
	return xoshPart(far)
}

func (p xoshPart) put() []byte {
	b := []byte{}
	for _, word := range p {
		b = append(b, low(word, wordBytes)...)
	}
	return b
}

func (p xoshPart) take(b []byte) (part, bool) {
	for i := range p {
		p[i] = number(b[i*wordBytes : (i+1)*wordBytes]).Lo
	}
	return p, true
}

func (p pcgPart) right() bool  { return pcg.Right(pcg.State(p)) }
func (p pcgPart) limit() int   { return farLimit }
func (p pcgPart) word() uint64 { return pcg.Word(pcg.State(p)) }
func (p pcgPart) step() part   { return pcgPart(pcg.Step(pcg.State(p))) }

func (p pcgPart) jump(n wide.U128) part {
	// Only one that is not right would be refused.
	far, _ := pcg.Jump(pcg.State(p), n)
	return pcgPart(far)
}

func (p pcgPart) put() []byte { return append(wide.Put(p.S), wide.Put(p.I)...) }

func (p pcgPart) take(b []byte) (part, bool) {
	return pcgPart{S: number(b[:wideBytes]), I: number(b[wideBytes:])}, true
}

func (p philoxPart) right() bool           { return true }
func (p philoxPart) limit() int            { return farLimit }
func (p philoxPart) word() uint64          { return half.Word(half.State(p)) }
func (p philoxPart) step() part            { return philoxPart(half.Step(half.State(p))) }
func (p philoxPart) jump(n wide.U128) part { return philoxPart(half.Jump(half.State(p), n)) }

func (p philoxPart) put() []byte {
	b := wide.Put(p.C)
	for _, word := range p.K {
		b = append(b, low(uint64(word), keyBytes)...)
	}
	if p.Second {
		return append(b, 1)
	}
	return append(b, 0)
}

func (p philoxPart) take(b []byte) (part, bool) {
	key, second := b[wideBytes:len(b)-1], b[len(b)-1]
	if second > 1 {
		return nil, false
	}
	k := philox.Key{uint32(number(key[:keyBytes]).Lo), uint32(number(key[keyBytes:]).Lo)}
	return philoxPart{C: number(b[:wideBytes]), K: k, Second: second == 1}, true
}
