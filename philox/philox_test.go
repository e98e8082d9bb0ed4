package philox

import (
	"math"
	"math/rand/v2"
	"testing"

	"knucklebone/api"
)

// top is 2^32 - 1.
const top = math.MaxUint32

// after tells the block behind a round, by the chapter's words.
func after(b Block, k Key) Block {
	p := uint64(b[0]) * 0xD2511F53
	q := uint64(b[2]) * 0xCD9E8D57
	high := func(n uint64) uint32 { return uint32(n / (1 << 32)) }
	low := func(n uint64) uint32 { return uint32(n % (1 << 32)) }
	return Block{high(q) ^ b[1] ^ k[0], low(q), high(p) ^ b[3] ^ k[1], low(p)}
}

// following tells the next key, by the chapter's words.
func following(k Key) Key {
	sum := func(x uint32, y uint64) uint32 { return uint32((uint64(x) + y) % (1 << 32)) }
	return Key{sum(k[0], 0x9E3779B9), sum(k[1], 0xBB67AE85)}
}

// mixed tells the block behind so many rounds, and the key that is next then.
func mixed(b Block, k Key, rounds int) (Block, Key) {
	for range rounds {
		b, k = after(b, k), following(k)
	}
	return b, k
}

// blocks tells blocks of words at edges, of a single bit 1 or 0, and random ones.
func blocks() []Block {
	words := []uint32{0, 1, 1 << 31, top}
	l := []Block{}
	for i := range 256 {
		l = append(l, Block{words[i&3], words[i>>2&3], words[i>>4&3], words[i>>6]})
	}
	for bit := range 128 {
		var one Block
		one[bit/32] = 1 << (bit % 32)
		l = append(l, one, Block{^one[0], ^one[1], ^one[2], ^one[3]})
	}
	r := rand.New(rand.NewPCG(1, 2))
	for range 200 {
		l = append(l, Block{r.Uint32(), r.Uint32(), r.Uint32(), r.Uint32()})
	}
	return l
}

// keys tells keys of words at edges, round about those of which the next ones go over 2^32, of a single bit, and random ones.
func keys() []Key {
	firsts := []uint32{0, 1, 0x61C88646, 0x61C88647, 0x61C88648, 1 << 31, top}
	seconds := []uint32{0, 1, 0x4498517A, 0x4498517B, 0x4498517C, 1 << 31, top}
	l := []Key{}
	for _, k := range firsts {
		for _, m := range seconds {
			l = append(l, Key{k, m})
		}
	}
	for bit := range 32 {
		l = append(l, Key{1 << bit, 0}, Key{0, 1 << bit})
	}
	r := rand.New(rand.NewPCG(3, 4))
	for range 50 {
		l = append(l, Key{r.Uint32(), r.Uint32()})
	}
	return l
}

// someKeys tells each k-th of the keys.
func someKeys(k int) []Key {
	few := []Key{}
	for i, key := range keys() {
		if i%k == 0 {
			few = append(few, key)
		}
	}
	return few
}

// right tells numbers of rounds that may be.
func right() []int { return []int{0, 1, 2, 3, 7, 9, 10, 11, 50, 99, 100} }

// wrong tells numbers of rounds that may not be.
func wrong() []int {
	return []int{math.MinInt, math.MinInt + 1, -1 << 32, -100, -10, -2, -1, 101, 102, 200, 256, 1 << 31, 1 << 32, 1<<32 + 10, math.MaxInt}
}

func TestRounds(t *testing.T) { // P11.1
	if Rounds != 10 {
		t.Errorf("%d", Rounds)
	}
}

func TestExample(t *testing.T) { // P11.1: the chapter's
	want := Block{0x6627E8D5, 0xE169C58D, 0xBC57AC4C, 0x9B00DBD8}
	if got := Out(Block{}, Key{}); got != want {
		t.Errorf("%X", got)
	}
	if got, err := Mix(Block{}, Key{}, 10); got != want || err != api.OK {
		t.Errorf("%X, %v", got, err)
	}
	if got, err := Unmix(want, Key{}, 10); got != (Block{}) || err != api.OK {
		t.Errorf("%X, %v", got, err)
	}
}

// known is a block and a key, and what the generator's authors publish of them: behind seven rounds, and behind ten.
type known struct {
	b          Block
	k          Key
	seven, ten Block
}

func TestPublished(t *testing.T) { // P11.1: as the published generator
	for _, c := range []known{
		{
			Block{}, Key{},
			Block{0x5F6FB709, 0x0D893F64, 0x4F121F81, 0x4F730A48},
			Block{0x6627E8D5, 0xE169C58D, 0xBC57AC4C, 0x9B00DBD8},
		}, {
			Block{top, top, top, top}, Key{top, top},
			Block{0x5207DDC2, 0x45165E59, 0x4D8EE751, 0x8C52F662},
			Block{0x408F276D, 0x41C83B0E, 0xA20BC7C6, 0x6D5451FD},
		}, {
			Block{0x243F6A88, 0x85A308D3, 0x13198A2E, 0x03707344}, Key{0xA4093822, 0x299F31D0},
			Block{0x4DFCCABA, 0x190A87F0, 0xC47362BA, 0xB6B5242A},
			Block{0xD16CFE09, 0x94FDCCEB, 0x5001E420, 0x24126EA1},
		},
	} {
		seven, errSeven := Mix(c.b, c.k, 7)
		ten, errTen := Mix(c.b, c.k, 10)
		if seven != c.seven || ten != c.ten || errSeven != api.OK || errTen != api.OK {
			t.Errorf("Mix of %X by %X: %X, %v, %X, %v", c.b, c.k, seven, errSeven, ten, errTen)
		}
		if got := Out(c.b, c.k); got != c.ten {
			t.Errorf("Out(%X, %X): %X", c.b, c.k, got)
		}
		backSeven, errSeven := Unmix(c.seven, c.k, 7)
		backTen, errTen := Unmix(c.ten, c.k, 10)
		if backSeven != c.b || backTen != c.b || errSeven != api.OK || errTen != api.OK {
			t.Errorf("Unmix by %X: %X, %v, %X, %v", c.k, backSeven, errSeven, backTen, errTen)
		}
	}
}

func TestRound(t *testing.T) { // P11.1: by the chapter's words
	for _, k := range keys() {
		for _, b := range blocks() {
			if got, want := Round(b, k), after(b, k); got != want {
				t.Fatalf("Round(%X, %X): %X, not %X", b, k, got, want)
			}
		}
	}
}

func TestRoundEdges(t *testing.T) { // P11.1: 0s, the greatest words, each word alone, products beyond 2^32
	for _, c := range []struct {
		b    Block
		k    Key
		want Block
	}{
		{Block{}, Key{}, Block{}},
		{Block{}, Key{1, 0}, Block{1, 0, 0, 0}},
		{Block{}, Key{0, 1}, Block{0, 0, 1, 0}},
		{Block{}, Key{top, top}, Block{top, 0, top, 0}},
		{Block{1, 0, 0, 0}, Key{}, Block{0, 0, 0, 0xD2511F53}},
		{Block{0, 1, 0, 0}, Key{}, Block{1, 0, 0, 0}},
		{Block{0, 0, 1, 0}, Key{}, Block{0, 0xCD9E8D57, 0, 0}},
		{Block{0, 0, 0, 1}, Key{}, Block{0, 0, 1, 0}},
		{Block{2, 0, 0, 0}, Key{}, Block{0, 0, 1, 0xA4A23EA6}},
		{Block{0, 0, 2, 0}, Key{}, Block{1, 0x9B3D1AAE, 0, 0}},
		{Block{1 << 16, 0, 0, 0}, Key{}, Block{0, 0, 0xD251, 0x1F530000}},
		{Block{0, 0, 1 << 16, 0}, Key{}, Block{0xCD9E, 0x8D570000, 0, 0}},
		{Block{1 << 31, 0, 0, 0}, Key{}, Block{0, 0, 0x69288FA9, 1 << 31}},
		{Block{0, 0, 1 << 31, 0}, Key{}, Block{0x66CF46AB, 1 << 31, 0, 0}},
		{Block{top, 0, 0, 0}, Key{}, Block{0, 0, 0xD2511F52, 0x2DAEE0AD}},
		{Block{0, top, 0, 0}, Key{}, Block{top, 0, 0, 0}},
		{Block{0, 0, top, 0}, Key{}, Block{0xCD9E8D56, 0x326172A9, 0, 0}},
		{Block{0, 0, 0, top}, Key{}, Block{0, 0, top, 0}},
		{Block{0, top, 0, top}, Key{top, top}, Block{}},
		{Block{top, top, top, top}, Key{}, Block{0x326172A9, 0x326172A9, 0x2DAEE0AD, 0x2DAEE0AD}},
		{Block{top, top, top, top}, Key{top, top}, Block{0xCD9E8D56, 0x326172A9, 0xD2511F52, 0x2DAEE0AD}},
		{Block{top, top, top, top}, Key{top, 0}, Block{0xCD9E8D56, 0x326172A9, 0x2DAEE0AD, 0x2DAEE0AD}},
		{Block{top, top, top, top}, Key{0, top}, Block{0x326172A9, 0x326172A9, 0xD2511F52, 0x2DAEE0AD}},
	} {
		if got := Round(c.b, c.k); got != c.want {
			t.Errorf("Round(%X, %X): %X, not %X", c.b, c.k, got, c.want)
		}
		if got := Unround(c.want, c.k); got != c.b {
			t.Errorf("Unround(%X, %X): %X, not %X", c.want, c.k, got, c.b)
		}
	}
}

func TestRoundOfOwnWords(t *testing.T) { // P11.1: each word of the outcome comes of its own words of block and key
	change := uint32(0x80000001)
	for _, b := range blocks() {
		k := Key{b[3] ^ 5, b[0] ^ 7}
		was := Round(b, k)
		for word, may := range []Block{{0, 0, 1, 1}, {1, 0, 0, 0}, {1, 1, 0, 0}, {0, 0, 1, 0}} {
			other := b
			other[word] ^= change
			now := Round(other, k)
			for i := range now {
				if may[i] == 0 && now[i] != was[i] {
					t.Errorf("word %d of Round(%X, %X) comes of word %d of the block", i, b, k, word)
				}
			}
			if now == was {
				t.Errorf("no word of Round(%X, %X) comes of word %d of the block", b, k, word)
			}
		}
		first, second := Round(b, Key{k[0] ^ change, k[1]}), Round(b, Key{k[0], k[1] ^ change})
		if first != (Block{was[0] ^ change, was[1], was[2], was[3]}) || second != (Block{was[0], was[1], was[2] ^ change, was[3]}) {
			t.Errorf("Round(%X, %X) by other keys: %X, %X", b, k, first, second)
		}
	}
}

func TestNext(t *testing.T) { // P11.1: where the sums go over 2^32, too, each by itself
	for _, c := range []struct{ k, want Key }{
		{Key{0, 0}, Key{0x9E3779B9, 0xBB67AE85}},
		{Key{1, 2}, Key{0x9E3779BA, 0xBB67AE87}},
		{Key{top, 0}, Key{0x9E3779B8, 0xBB67AE85}},
		{Key{0, top}, Key{0x9E3779B9, 0xBB67AE84}},
		{Key{top, top}, Key{0x9E3779B8, 0xBB67AE84}},
		{Key{0x61C88646, 0x4498517A}, Key{top, top}},
		{Key{0x61C88647, 0x4498517B}, Key{0, 0}},
		{Key{0x61C88648, 0x4498517C}, Key{1, 1}},
		{Key{0x61C88647, 0}, Key{0, 0xBB67AE85}},
		{Key{0, 0x4498517B}, Key{0x9E3779B9, 0}},
		{Key{1 << 31, 1 << 31}, Key{0x1E3779B9, 0x3B67AE85}},
	} {
		if got := Next(c.k); got != c.want {
			t.Errorf("Next(%X): %X, not %X", c.k, got, c.want)
		}
	}
	for _, k := range keys() {
		for range 300 {
			want := following(k)
			if got := Next(k); got != want {
				t.Fatalf("Next(%X): %X, not %X", k, got, want)
			}
			k = want
		}
	}
}

func TestUnround(t *testing.T) { // P11.1: before and behind Round, by every sort of key
	for _, k := range keys() {
		for _, b := range blocks() {
			back := Unround(b, k)
			if got := after(back, k); got != b {
				t.Fatalf("the round of Unround(%X, %X): %X", b, k, got)
			}
			if got := Unround(after(b, k), k); got != b {
				t.Fatalf("Unround of the round of %X by %X: %X", b, k, got)
			}
			if Round(back, k) != b || Unround(Round(b, k), k) != b {
				t.Fatalf("Round and Unround of %X by %X: %X, %X", b, k, Round(back, k), Unround(Round(b, k), k))
			}
		}
	}
}

func TestMix(t *testing.T) { // P11.1: the first round by k, each next one by the next key
	for _, k := range someKeys(5) {
		for _, b := range blocks() {
			for _, rounds := range right() {
				want, _ := mixed(b, k, rounds)
				if got, err := Mix(b, k, rounds); got != want || err != api.OK {
					t.Fatalf("Mix(%X, %X, %d): %X, %v, not %X", b, k, rounds, got, err, want)
				}
			}
		}
	}
	b, k := Block{1, 2, 3, 4}, Key{5, 6}
	for rounds := range 101 {
		if got, err := Mix(Block{1, 2, 3, 4}, Key{5, 6}, rounds); got != b || err != api.OK {
			t.Errorf("%d rounds: %X, %v, not %X", rounds, got, err, b)
		}
		b, k = after(b, k), following(k)
	}
}

func TestUnmix(t *testing.T) { // P11.1: before and behind Mix
	for _, k := range someKeys(5) {
		for _, b := range blocks() {
			for _, rounds := range right() {
				back, err := Unmix(b, k, rounds)
				if got, _ := mixed(back, k, rounds); got != b || err != api.OK {
					t.Fatalf("%d rounds of Unmix of %X by %X: %X, %v", rounds, b, k, got, err)
				}
				forth, _ := mixed(b, k, rounds)
				if got, err := Unmix(forth, k, rounds); got != b || err != api.OK {
					t.Fatalf("Unmix of %d rounds of %X by %X: %X, %v", rounds, b, k, got, err)
				}
				again, _ := Mix(back, k, rounds)
				mix, _ := Mix(b, k, rounds)
				if got, _ := Unmix(mix, k, rounds); again != b || got != b {
					t.Fatalf("Mix and Unmix of %d rounds of %X by %X: %X, %X", rounds, b, k, again, got)
				}
			}
		}
	}
	b, k := Block{top, 0, top, 1}, Key{top, 0}
	for rounds := range 101 {
		if got, err := Unmix(b, Key{top, 0}, rounds); got != (Block{top, 0, top, 1}) || err != api.OK {
			t.Errorf("%d rounds: %X, %v", rounds, got, err)
		}
		b, k = after(b, k), following(k)
	}
}

func TestFewRounds(t *testing.T) { // P11.1: of 0 rounds, which change nothing, 1 and 2
	for _, k := range keys() {
		for _, b := range blocks() {
			none, errNone := Mix(b, k, 0)
			one, errOne := Mix(b, k, 1)
			two, errTwo := Mix(b, k, 2)
			if none != b || one != after(b, k) || two != after(after(b, k), following(k)) || errNone != api.OK || errOne != api.OK || errTwo != api.OK {
				t.Fatalf("Mix of %X by %X: %X, %X, %X", b, k, none, one, two)
			}
			none, errNone = Unmix(b, k, 0)
			one, errOne = Unmix(b, k, 1)
			two, errTwo = Unmix(b, k, 2)
			if none != b || one != Unround(b, k) || two != Unround(Unround(b, following(k)), k) || errNone != api.OK || errOne != api.OK || errTwo != api.OK {
				t.Fatalf("Unmix of %X by %X: %X, %X, %X", b, k, none, one, two)
			}
		}
	}
}

func TestRefuses(t *testing.T) { // P11.1: the zero block, ErrArg
	for _, rounds := range wrong() {
		for _, k := range someKeys(9) {
			for _, b := range blocks() {
				if got, err := Mix(b, k, rounds); got != (Block{}) || err != api.ErrArg {
					t.Fatalf("Mix(%X, %X, %d): %X, %v", b, k, rounds, got, err)
				}
				if got, err := Unmix(b, k, rounds); got != (Block{}) || err != api.ErrArg {
					t.Fatalf("Unmix(%X, %X, %d): %X, %v", b, k, rounds, got, err)
				}
			}
		}
	}
}

func TestOut(t *testing.T) { // P11.1: Mix of ten rounds
	for _, k := range keys() {
		for _, b := range blocks() {
			got := Out(b, k)
			if want, _ := mixed(b, k, 10); got != want {
				t.Fatalf("Out(%X, %X): %X, not %X", b, k, got, want)
			}
			if want, err := Mix(b, k, Rounds); got != want || err != api.OK {
				t.Fatalf("Out(%X, %X): %X, but Mix %X, %v", b, k, got, want, err)
			}
		}
	}
}

func TestParts(t *testing.T) { // P11.2: rounds in parts are those at once, by the key that is next then
	for i, k := range keys() {
		b := blocks()[i]
		for _, rounds := range []int{0, 1, 2, 10, 37, 100} {
			whole, errWhole := Mix(b, k, rounds)
			back, errBack := Unmix(whole, k, rounds)
			then := k
			for part := range rounds + 1 {
				first, errFirst := Mix(b, k, part)
				rest, errRest := Mix(first, then, rounds-part)
				if rest != whole || errWhole != api.OK || errFirst != api.OK || errRest != api.OK {
					t.Fatalf("%d of %d rounds of %X by %X, then the others: %X, not %X", part, rounds, b, k, rest, whole)
				}
				last, errLast := Unmix(whole, then, rounds-part)
				ahead, errAhead := Unmix(last, k, part)
				if last != first || ahead != b || back != b || errBack != api.OK || errLast != api.OK || errAhead != api.OK {
					t.Fatalf("%d of %d rounds undone to %X by %X, ahead of the others: %X, %X, %X", part, rounds, b, k, last, ahead, back)
				}
				then = Next(then)
			}
		}
	}
}

func TestThreeParts(t *testing.T) { // P11.2: with parts of 0 rounds
	b, k := Block{0x01234567, 0x89ABCDEF, 0xFEDCBA98, 0x76543210}, Key{top, 0x4498517B}
	for _, parts := range [][]int{{0, 0, 10}, {0, 10, 0}, {10, 0, 0}, {3, 0, 7}, {3, 3, 4}, {0, 4, 6}, {33, 33, 34}, {0, 0, 0}} {
		got, then, rounds := b, k, 0
		for _, part := range parts {
			got, _ = Mix(got, then, part)
			for range part {
				then = Next(then)
			}
			rounds += part
		}
		if want, err := Mix(b, k, rounds); got != want || err != api.OK {
			t.Errorf("in parts %d: %X, at once %X, %v", parts, got, want, err)
		}
	}
}

// counted tells distinct blocks: those of blocks, and, of each word, many that are counted.
func counted() map[Block]bool {
	l := map[Block]bool{}
	for _, b := range blocks() {
		l[b] = true
	}
	for word := range 4 {
		for n := range uint32(5000) {
			low, high, last := Block{}, Block{}, Block{top, top, top, top}
			low[word], high[word], last[word] = n, n<<19, top-n
			l[low], l[high], l[last] = true, true, true
		}
	}
	return l
}

func TestDistinctOuts(t *testing.T) { // P11.2: by one key
	all := counted()
	for _, k := range []Key{{0, 0}, {top, top}, {0x61C88647, 0x4498517B}, {1, 0}, {0x0123ABCD, 0xFEDC9876}} {
		outs := map[Block]Block{}
		for b := range all {
			out := Out(b, k)
			if other, twice := outs[out]; twice {
				t.Fatalf("by %X, %X and %X have the out %X", k, b, other, out)
			}
			outs[out] = b
			if got, err := Unmix(out, k, Rounds); got != b || err != api.OK {
				t.Fatalf("%X is the out by %X of %X, and of %X, %v", out, k, b, got, err)
			}
		}
	}
}

func TestEachBlockIsAnOut(t *testing.T) { // P11.2: as many as there are blocks, so none is lost
	for _, k := range keys() {
		for _, out := range blocks() {
			b, err := Unmix(out, k, Rounds)
			if got := Out(b, k); got != out || err != api.OK {
				t.Fatalf("Out(%X, %X): %X, %v, not %X", b, k, got, err, out)
			}
		}
	}
}

// answers is all that the package answers of a block, a key and a number of rounds.
type answers struct {
	round, unround, mix, unmix, out Block
	next                            Key
	errMix, errUnmix                api.Errno
}

// ask tells all answers.
func ask(b *Block, k *Key, rounds *int) answers {
	mix, errMix := Mix(*b, *k, *rounds)
	unmix, errUnmix := Unmix(*b, *k, *rounds)
	return answers{Round(*b, *k), Unround(*b, *k), mix, unmix, Out(*b, *k), Next(*k), errMix, errUnmix}
}

func TestSameCallsSameAnswers(t *testing.T) { // P11.1: R3 to R5
	all := blocks()
	for i, b := range all {
		for j, k := range someKeys(7) {
			for _, rounds := range []int{-1, 0, 1, 10, 100, 101} {
				here, by, many := b, k, rounds
				other, otherKey, otherMany := all[len(all)-1-i], Key{k[1], ^k[0]}, j
				keptOther, keptKey := other, otherKey
				first := ask(&here, &by, &many)
				ask(&other, &otherKey, &otherMany)
				if again := ask(&here, &by, &many); again != first {
					t.Fatalf("%X, %X, %d: %v, then %v", b, k, rounds, first, again)
				}
				if here != b || by != k || many != rounds || other != keptOther || otherKey != keptKey || otherMany != j {
					t.Fatalf("an argument was changed: %X, %X, %d, %X, %X, %d", here, by, many, other, otherKey, otherMany)
				}
			}
		}
	}
}
