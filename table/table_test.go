package table

import (
	"maps"
	"math"
	"math/rand/v2"
	"slices"
	"strconv"
	"testing"

	"knucklebone/api"
)

// most is the greatest Next, and above all handles: 2^31 - 1.
const most = 1<<31 - 1

// model is a table by the chapter's words: what stands behind which handle, and Next.
type model[T any] struct {
	values map[int]T
	next   int
}

func (m *model[T]) handles() []int { return slices.Sorted(maps.Keys(m.values)) }

func (m *model[T]) add(v T) (int, api.Errno) {
	if len(m.values) == api.MostHandles {
		return 0, api.ErrFull
	}
	if m.next == most {
		return 0, api.ErrOver
	}
	m.values[m.next] = v
	m.next++
	return m.next - 1, api.OK
}

func (m *model[T]) drop(h int) bool {
	_, ok := m.values[h]
	delete(m.values, h)
	return ok
}

func (m *model[T]) lay(h int, v T) api.Errno {
	if len(m.values) == api.MostHandles {
		return api.ErrFull
	}
	if h < m.next || h >= most {
		return api.ErrArg
	}
	m.values[h] = v
	m.next = h + 1
	return api.OK
}

func (m *model[T]) goes(next int) api.Errno {
	if next < m.next || next > most {
		return api.ErrArg
	}
	m.next = next
	return api.OK
}

func (m *model[T]) copied(own func(T) T) *model[T] {
	c := &model[T]{map[int]T{}, m.next}
	for _, h := range m.handles() {
		c.values[h] = own(m.values[h])
	}
	return c
}

// numbers tells handles that are none in most tables: negative ones, great ones, and the least and the greatest number.
func numbers() []int {
	return []int{-1, -2, -16, -1 << 31, -1<<31 - 1, -1 << 32, math.MinInt + 1, math.MinInt, 1 << 30, most - 2, most - 1, most, most + 1, 1 << 32, 1<<32 + 1, 1 << 40, math.MaxInt - 1, math.MaxInt}
}

// near tells the numbers near some: all those up to two more or less.
func near(of ...int) []int {
	l := []int{}
	for _, n := range of {
		for by := -2; by <= 2; by++ {
			l = append(l, n+by)
		}
	}
	return l
}

// isAs tells whether a table is as a model in all that can be asked.
func isAs[T comparable](t *testing.T, tab *Table[T], m *model[T], what string) {
	t.Helper()
	want := m.handles()
	if l := tab.Handles(); !slices.Equal(l, want) {
		t.Errorf("%s: handles %v, not %v", what, l, want)
	}
	if n := tab.Next(); n != m.next {
		t.Errorf("%s: Next %d, not %d", what, n, m.next)
	}
	asked := append(numbers(), near(append(want, 0, m.next)...)...)
	for _, h := range asked {
		v, there := m.values[h]
		if got, ok := tab.Get(h); got != v || ok != there {
			t.Errorf("%s: Get(%d): %v, %v, not %v, %v", what, h, got, ok, v, there)
		}
	}
}

// both is a table and its model, of which the same is asked.
type both[T comparable] struct {
	t   *testing.T
	tab *Table[T]
	m   *model[T]
}

func newBoth[T comparable](t *testing.T) *both[T] {
	return &both[T]{t, New[T](), &model[T]{values: map[int]T{}}}
}

func (b *both[T]) same(what string) {
	b.t.Helper()
	isAs(b.t, b.tab, b.m, what)
}

func (b *both[T]) add(v T) int {
	b.t.Helper()
	want, wantErr := b.m.add(v)
	h, err := b.tab.Add(v)
	if h != want || err != wantErr {
		b.t.Errorf("Add(%v): %d, %v, not %d, %v", v, h, err, want, wantErr)
	}
	b.same("behind Add")
	return h
}

func (b *both[T]) drop(h int) {
	b.t.Helper()
	want := b.m.drop(h)
	if ok := b.tab.Drop(h); ok != want {
		b.t.Errorf("Drop(%d): %v, not %v", h, ok, want)
	}
	b.same("behind Drop " + strconv.Itoa(h))
}

func (b *both[T]) lay(h int, v T) {
	b.t.Helper()
	want := b.m.lay(h, v)
	if err := b.tab.Lay(h, v); err != want {
		b.t.Errorf("Lay(%d, %v): %v, not %v", h, v, err, want)
	}
	b.same("behind Lay " + strconv.Itoa(h))
}

func (b *both[T]) goes(next int) {
	b.t.Helper()
	want := b.m.goes(next)
	if err := b.tab.Goes(next); err != want {
		b.t.Errorf("Goes(%d): %v, not %v", next, err, want)
	}
	b.same("behind Goes " + strconv.Itoa(next))
}

// full makes the room full, by so many values behind one another.
func (b *both[T]) full(v T) {
	b.t.Helper()
	for len(b.m.values) < api.MostHandles {
		b.add(v)
	}
}

// pair is a struct as a value.
type pair struct {
	name  string
	times [3]int
}

func TestExample(t *testing.T) { // P19.1, P19.2: the chapter's, and the document's: handles 0, 1; 0, or 1, dropped; the next one is 2
	for _, dropped := range []int{0, 1} {
		tab := New[string]()
		for want, v := range []string{"a", "b"} {
			if h, err := tab.Add(v); h != want || err != api.OK {
				t.Errorf("Add: %d, %v, not %d", h, err, want)
			}
		}
		if !tab.Drop(dropped) {
			t.Errorf("Drop(%d): false", dropped)
		}
		if h, err := tab.Add("c"); h != 2 || err != api.OK {
			t.Errorf("Add: %d, %v, not 2", h, err)
		}
		if l := tab.Handles(); !slices.Equal(l, []int{1 - dropped, 2}) || tab.Next() != 3 {
			t.Errorf("handles %v, Next %d", l, tab.Next())
		}
	}
}

// empty asks a new table of some type all that has an answer there.
func empty[T comparable](t *testing.T) {
	t.Helper()
	tab := New[T]()
	if tab == nil {
		t.Fatal("no table")
	}
	if l := tab.Handles(); len(l) != 0 || tab.Next() != 0 {
		t.Errorf("a new table of %T: handles %v, Next %d", *new(T), l, tab.Next())
	}
	b := newBoth[T](t)
	b.same("a new table")
	for _, h := range append(numbers(), near(0)...) {
		b.drop(h)
	}
}

func TestNew(t *testing.T) { // P19.1: of values of many types
	empty[int](t)
	empty[string](t)
	empty[pair](t)
	empty[*pair](t)
	empty[[3]byte](t)
	empty[bool](t)
	empty[float64](t)
	empty[struct{}](t)
	empty[any](t)
	empty[error](t)
	empty[api.Errno](t)
	empty[chan int](t)
	empty[*Table[int]](t)
}

func TestTablesAreApart(t *testing.T) { // P19.1, R5: a new table has nothing of another one
	a, b := newBoth[int](t), newBoth[int](t)
	c := newBoth[string](t)
	a.full(7)
	a.drop(3)
	b.same("another one")
	b.add(9)
	c.same("one of another type")
	a.same("the first one")
	newBoth[int](t).same("one that is made behind them")
	a.add(8)
	b.same("another one, again")
}

// steps goes through Add, Get, Drop, Lay, Goes and Copy of values of one type, at the chapter's edges.
func steps[T comparable](t *testing.T, of func(int) T) {
	t.Helper()
	b := newBoth[T](t)
	for i := range api.MostHandles {
		if h := b.add(of(i)); h != i {
			t.Errorf("Add %d: %d", i, h)
		}
	}
	b.add(of(99))
	for _, h := range []int{3, 3, 0, 15, 0, 9, -1, 16} {
		b.drop(h)
	}
	b.lay(40, of(40))
	b.add(of(41))
	b.add(of(42))
	c := &both[T]{t, b.tab.Copy(func(v T) T { return v }), b.m.copied(func(v T) T { return v })}
	c.same("a copy")
	c.add(of(43))
	c.drop(41)
	b.same("behind changes of a copy")
	b.goes(50)
	b.drop(7)
	b.add(of(50))
	b.lay(most-1, of(51))
	c.same("behind changes of the table")
	b.add(of(52))
	b.goes(most)
	b.lay(most, of(53))
}

func TestTypes(t *testing.T) { // P19.1, P19.2, P19.3: the same of values of each type
	steps(t, func(n int) int { return n + 100 })
	steps(t, strconv.Itoa)
	steps(t, func(n int) pair { return pair{strconv.Itoa(n), [3]int{n, -n, n * n}} })
	steps(t, func(n int) *pair { return &pair{name: strconv.Itoa(n)} })
	steps(t, func(n int) [3]byte { return [3]byte{byte(n), byte(n + 1), 7} })
	steps(t, func(n int) bool { return n%2 == 0 })
	steps(t, func(n int) float64 { return float64(n) / 3 })
	steps(t, func(int) struct{} { return struct{}{} })
	steps(t, func(n int) any { return []any{nil, n, strconv.Itoa(n), pair{}}[n%4] })
	steps(t, func(n int) error { return []error{nil, api.ErrArg, api.ErrFull}[n%3] })
	steps(t, func(int) chan int { return make(chan int) })
	steps(t, func(int) *Table[int] { return New[int]() })
}

func TestZeroValuesStand(t *testing.T) { // P19.1, P19.2: a zero value stands like others: true beside it
	tab := New[*pair]()
	for want := range 3 {
		if h, err := tab.Add(nil); h != want || err != api.OK {
			t.Errorf("Add(nil): %d, %v", h, err)
		}
	}
	if v, ok := tab.Get(1); v != nil || !ok {
		t.Errorf("Get(1): %v, %v", v, ok)
	}
	if !tab.Drop(1) || tab.Drop(1) {
		t.Error("a zero value isn't dropped just once")
	}
	if v, ok := tab.Get(1); v != nil || ok {
		t.Errorf("Get(1) behind Drop: %v, %v", v, ok)
	}
	if l := tab.Handles(); !slices.Equal(l, []int{0, 2}) {
		t.Errorf("handles %v", l)
	}
}

func TestValuesThatAreNotCompared(t *testing.T) { // P19.1: lists, maps and functions stand behind handles, too; a pointer is told as it is
	lists := New[[]int]()
	_, _ = lists.Add([]int{1, 2})
	_, _ = lists.Add(nil)
	if l, ok := lists.Get(0); !slices.Equal(l, []int{1, 2}) || !ok {
		t.Errorf("a list: %v, %v", l, ok)
	}
	if l, ok := lists.Get(2); l != nil || ok {
		t.Errorf("no list: %v, %v", l, ok)
	}
	calls := New[func() int]()
	_, _ = calls.Add(func() int { return 5 })
	_, _ = calls.Add(func() int { return 6 })
	calls.Drop(0)
	if f, ok := calls.Get(1); !ok || f() != 6 {
		t.Error("a function")
	}
	if f, ok := calls.Get(0); ok || f != nil {
		t.Error("no function")
	}
	named := New[map[string]int]()
	_, _ = named.Add(map[string]int{"a": 1})
	if m, ok := named.Get(0); !ok || m["a"] != 1 {
		t.Errorf("a map: %v, %v", m, ok)
	}
	p := &pair{name: "p"}
	kept := New[*pair]()
	_, _ = kept.Add(p)
	p.name = "q"
	if q, ok := kept.Get(0); q != p || !ok || q.name != "q" {
		t.Error("a pointer isn't told as it is")
	}
}

func TestGet(t *testing.T) { // P19.1: of one that has a value, that was dropped, that isn't given yet, that is next, and of numbers that are none
	tab := New[string]()
	for _, v := range []string{"a", "b", "c", "d"} {
		_, _ = tab.Add(v)
	}
	_ = tab.Drop(1)
	_ = tab.Lay(10, "k")
	_ = tab.Goes(20)
	for _, c := range []struct {
		h  int
		v  string
		ok bool
	}{
		{0, "a", true}, {1, "", false}, {2, "c", true}, {3, "d", true}, {4, "", false}, {9, "", false}, {10, "k", true}, {11, "", false}, {19, "", false}, {20, "", false}, {21, "", false},
		{-1, "", false}, {most - 1, "", false}, {most, "", false}, {1 << 32, "", false}, {1<<32 + 2, "", false}, {math.MinInt, "", false}, {math.MaxInt, "", false},
	} {
		for range 2 {
			if v, ok := tab.Get(c.h); v != c.v || ok != c.ok {
				t.Errorf("Get(%d): %q, %v, not %q, %v", c.h, v, ok, c.v, c.ok)
			}
		}
	}
}

func TestHandles(t *testing.T) { // P19.1: of none, of one, of MostHandles
	tab := New[int]()
	for many := range api.MostHandles + 1 {
		want := []int{}
		for h := range many {
			want = append(want, h)
		}
		if l := tab.Handles(); !slices.Equal(l, want) || tab.Next() != many {
			t.Errorf("of %d: %v, Next %d", many, l, tab.Next())
		}
		_, _ = tab.Add(many)
	}
}

// orders calls do with each order of the numbers from 0 to n less 1.
func orders(n int, do func([]int)) {
	row := make([]int, 0, n)
	var more func()
	more = func() {
		if len(row) == n {
			do(row)
			return
		}
		for i := range n {
			if !slices.Contains(row, i) {
				row = append(row, i)
				more()
				row = row[:len(row)-1]
			}
		}
	}
	more()
}

func TestDropsInAnyOrder(t *testing.T) { // P19.1, P19.2: rising behind drops in any order, each value behind its own handle
	orders(5, func(row []int) {
		b := newBoth[string](t)
		for i := range 5 {
			b.add("v" + strconv.Itoa(i))
		}
		for i, h := range row {
			b.drop(h)
			if i == 2 {
				b.add("more")
			}
		}
		b.drop(5)
		if l := b.tab.Handles(); len(l) != 0 || b.tab.Next() != 6 {
			t.Errorf("drops %v: handles %v, Next %d", row, l, b.tab.Next())
		}
	})
	r := rand.New(rand.NewPCG(19, 1))
	for range 50 {
		b := newBoth[int](t)
		for i := range api.MostHandles {
			b.add(i * i)
		}
		for _, h := range r.Perm(api.MostHandles) {
			b.drop(h)
		}
	}
}

func TestAddToTheFull(t *testing.T) { // P19.2: up to MostHandles and one more: ErrFull; behind a drop there is room for one again
	b := newBoth[int](t)
	for i := range 16 {
		if h, err := b.tab.Add(i); h != i || err != api.OK {
			t.Errorf("Add %d: %d, %v", i, h, err)
		}
		_, _ = b.m.add(i)
	}
	b.same("full")
	for i, dropped := range []int{7, 0, 15, 16, 18, 3, 19} {
		for range 3 {
			if h, err := b.tab.Add(55); h != 0 || err != api.ErrFull {
				t.Errorf("Add to the full: %d, %v", h, err)
			}
			b.same("behind ErrFull")
		}
		b.drop(dropped)
		if h, err := b.tab.Add(100 + i); h != 16+i || err != api.OK {
			t.Errorf("Add behind a drop: %d, %v, not %d", h, err, 16+i)
		}
		_, _ = b.m.add(100 + i)
		b.same("behind a drop and Add")
	}
}

func TestAddAtTheEnd(t *testing.T) { // P19.2: where Next is 2^31 - 2, and 2^31 - 1: ErrOver, behind a drop, too; ErrFull ahead of it
	for many := range api.MostHandles + 1 {
		b := newBoth[string](t)
		for range many {
			b.add("v")
		}
		b.goes(2147483646)
		h, err := b.tab.Add("last")
		if _, wantErr := b.m.add("last"); many == api.MostHandles {
			if h != 0 || err != api.ErrFull || wantErr != err {
				t.Errorf("%d, %v, not ErrFull", h, err)
			}
			b.goes(most)
		} else if h != 2147483646 || err != api.OK {
			t.Errorf("with %d: %d, %v", many, h, err)
		}
		b.same("the last handle")
		want := api.ErrOver
		if len(b.m.values) == api.MostHandles {
			want = api.ErrFull
		}
		for range 2 {
			if h, err := b.tab.Add("more"); h != 0 || err != want {
				t.Errorf("with %d, Next 2^31 - 1: %d, %v, not %v", many, h, err, want)
			}
			b.same("behind it")
		}
		for _, h := range b.m.handles() {
			b.drop(h)
			if h, err := b.tab.Add("more"); h != 0 || err != api.ErrOver {
				t.Errorf("behind a drop, Next 2^31 - 1: %d, %v", h, err)
			}
			b.same("behind a drop and ErrOver")
		}
	}
}

func TestDrop(t *testing.T) { // P19.2: just once; of one never given, of numbers that are none: false, and nothing has changed
	b := newBoth[string](t)
	for i := range 6 {
		b.add("v" + strconv.Itoa(i))
	}
	b.goes(10)
	b.lay(12, "v12")
	for _, c := range []struct {
		h  int
		ok bool
	}{
		{2, true}, {2, false}, {0, true}, {0, false}, {-1, false}, {6, false}, {9, false}, {11, false}, {13, false}, {14, false}, {12, true}, {12, false}, {5, true}, {5, false},
		{math.MinInt, false}, {math.MaxInt, false}, {1 << 32, false}, {1<<32 + 1, false}, {1, true}, {1, false}, {3, true}, {4, true}, {4, false}, {3, false},
	} {
		if ok := b.tab.Drop(c.h); ok != c.ok {
			t.Errorf("Drop(%d): %v, not %v", c.h, ok, c.ok)
		}
		_ = b.m.drop(c.h)
		b.same("behind Drop")
		if v, ok := b.tab.Get(c.h); v != "" || ok {
			t.Errorf("Get(%d) behind Drop: %q, %v", c.h, v, ok)
		}
	}
	if b.tab.Next() != 13 {
		t.Errorf("Next %d", b.tab.Next())
	}
}

func TestLay(t *testing.T) { // P19.3: below Next whether it has a value or not, at Next, beyond it, at the last one and the end
	for _, c := range []struct {
		h   int
		err api.Errno
	}{
		{0, api.ErrArg}, {1, api.ErrArg}, {2, api.ErrArg}, {3, api.ErrArg}, {4, api.ErrArg}, {5, api.OK}, {6, api.OK}, {100, api.OK}, {1 << 30, api.OK},
		{most - 2, api.OK}, {most - 1, api.OK}, {most, api.ErrArg}, {most + 1, api.ErrArg}, {1 << 32, api.ErrArg}, {1<<32 + 5, api.ErrArg}, {math.MaxInt, api.ErrArg},
		{-1, api.ErrArg}, {-2, api.ErrArg}, {-1 << 31, api.ErrArg}, {-1 << 32, api.ErrArg}, {math.MinInt, api.ErrArg},
	} {
		b := newBoth[string](t)
		for i := range 4 {
			b.add("v" + strconv.Itoa(i))
		}
		b.goes(5)
		b.drop(1)
		if err := b.tab.Lay(c.h, "laid"); err != c.err {
			t.Errorf("Lay(%d): %v, not %v", c.h, err, c.err)
		}
		if c.err == api.OK {
			b.m.values[c.h], b.m.next = "laid", c.h+1
		}
		b.same("behind Lay " + strconv.Itoa(c.h))
		b.lay(c.h, "again")
		b.add("behind it")
	}
}

func TestLayToTheFull(t *testing.T) { // P19.3: ErrFull ahead of a handle that may not be, and for one that may be; behind a drop there is room
	b := newBoth[int](t)
	b.lay(5, 5)
	b.full(1)
	next := b.m.next
	for _, h := range append(numbers(), near(0, 5, next)...) {
		if err := b.tab.Lay(h, 9); err != api.ErrFull {
			t.Errorf("Lay(%d) to the full: %v", h, err)
		}
		b.same("behind ErrFull")
	}
	b.drop(8)
	b.lay(8, 9)
	b.lay(next-1, 9)
	if err := b.tab.Lay(next, 9); err != api.OK {
		t.Errorf("Lay(%d) behind a drop: %v", next, err)
	}
	_ = b.m.lay(next, 9)
	b.same("behind a drop and Lay")
	b.lay(next+1, 9)
	b.add(9)
}

func TestLayAtTheEnd(t *testing.T) { // P19.3: where Next is 2^31 - 1 no handle may be laid: ErrArg
	b := newBoth[int](t)
	b.lay(3, 3)
	b.lay(most-1, 4)
	if b.tab.Next() != 2147483647 {
		t.Errorf("Next %d", b.tab.Next())
	}
	for _, h := range append(numbers(), near(0, 3)...) {
		if err := b.tab.Lay(h, 9); err != api.ErrArg {
			t.Errorf("Lay(%d): %v", h, err)
		}
		b.same("at the end")
	}
	b.drop(most - 1)
	b.lay(most-1, 5)
}

func TestGoes(t *testing.T) { // P19.3: below Next, to Next, beyond it, to the end, beyond that, to negative numbers
	for _, c := range []struct {
		next int
		err  api.Errno
	}{
		{0, api.ErrArg}, {1, api.ErrArg}, {5, api.ErrArg}, {6, api.OK}, {7, api.OK}, {1000, api.OK}, {most - 1, api.OK}, {most, api.OK}, {most + 1, api.ErrArg},
		{1 << 32, api.ErrArg}, {1<<32 + 7, api.ErrArg}, {math.MaxInt, api.ErrArg}, {-1, api.ErrArg}, {-7, api.ErrArg}, {-1 << 32, api.ErrArg}, {math.MinInt, api.ErrArg},
	} {
		for _, many := range []int{1, 6, api.MostHandles} {
			b := newBoth[string](t)
			b.goes(max(6-many, 0))
			for range many {
				b.add("v")
			}
			was := b.m.next
			err := b.tab.Goes(c.next)
			if was == 6 && err != c.err {
				t.Errorf("Goes(%d): %v, not %v", c.next, err, c.err)
			}
			if want := b.m.goes(c.next); err != want {
				t.Errorf("where Next is %d, Goes(%d): %v, not %v", was, c.next, err, want)
			}
			b.same("behind Goes")
			b.goes(c.next)
			b.add("behind it")
			b.goes(was)
		}
	}
}

func TestGoesPassesHandles(t *testing.T) { // P19.2, P19.3: what Goes passes is never given, nor laid
	b := newBoth[int](t)
	b.goes(0)
	b.goes(3)
	for want := 3; want < 6; want++ {
		if h := b.add(want); h != want {
			t.Errorf("Add: %d, not %d", h, want)
		}
	}
	for h := range 6 {
		b.lay(h, 1)
	}
	b.goes(2)
	b.goes(6)
	if h := b.add(6); h != 6 {
		t.Errorf("Add: %d, not 6", h)
	}
}

// called tells a function that notes of what it is called, and answers ten times that.
func called(of *[]int) func(int) int {
	return func(v int) int {
		*of = append(*of, v)
		return 10 * v
	}
}

func TestCopy(t *testing.T) { // P19.3: the same handles and Next; own is called of each value once, in the handles' order, and its answers stand there
	for many := range api.MostHandles + 1 {
		b := newBoth[int](t)
		b.goes(4)
		// So that the values fall while the handles rise.
		for i := range many {
			b.add(90 - i)
		}
		for _, h := range []int{4, 9, 4 + many/2} {
			b.drop(h)
		}
		b.goes(b.m.next + 3)
		want := []int{}
		for _, h := range b.m.handles() {
			want = append(want, b.m.values[h])
		}
		of := []int{}
		c := b.tab.Copy(called(&of))
		if !slices.Equal(of, want) {
			t.Errorf("of %d: own is called of %v, not of %v", many, of, want)
		}
		isAs(t, c, b.m.copied(func(v int) int { return 10 * v }), "a copy")
		b.same("behind Copy")
	}
}

func TestCopyOfNone(t *testing.T) { // P19.3: without a value own isn't called; Next is the same, at the end, too
	for _, next := range []int{0, 1, 9, most - 1, most} {
		b := newBoth[pair](t)
		b.goes(next)
		c := b.tab.Copy(func(v pair) pair {
			t.Error("own is called")
			return v
		})
		isAs(t, c, b.m, "a copy of none")
		if next < most-1 {
			b.add(pair{})
			b.drop(next)
			isAs(t, b.tab.Copy(nil), b.m, "a copy of one that was emptied")
		}
	}
}

func TestCopiesAreApart(t *testing.T) { // P19.3: what is done with a copy changes nothing of the table, nor the other way round, nor of other copies
	for _, many := range []int{0, 1, 3, 8, 15, 16} {
		b := newBoth[int](t)
		for i := range many {
			b.add(i)
		}
		same := func(v int) int { return v }
		rows := []*both[int]{b}
		for range 3 {
			rows = append(rows, &both[int]{t, rows[len(rows)-1].tab.Copy(same), rows[len(rows)-1].m.copied(same)})
		}
		do := []func(*both[int]){
			func(c *both[int]) { c.drop(0) },
			func(c *both[int]) { c.add(71) },
			func(c *both[int]) { c.add(72) },
			func(c *both[int]) { c.drop(many / 2) },
			func(c *both[int]) { c.lay(30, 73) },
			func(c *both[int]) { c.goes(40) },
			func(c *both[int]) { c.add(74) },
		}
		for i, act := range do {
			for j := range rows {
				act(rows[(i+j)%len(rows)])
				for _, c := range rows {
					c.same("one of four")
				}
			}
		}
	}
}

func TestCopyOfPointers(t *testing.T) { // P19.3: with an own that tells new ones, values are apart, too; with one that tells the same ones, the same stand there
	tab := New[*pair]()
	for i := range 5 {
		_, _ = tab.Add(&pair{name: strconv.Itoa(i)})
	}
	_ = tab.Drop(2)
	own := tab.Copy(func(p *pair) *pair {
		q := *p
		return &q
	})
	shared := tab.Copy(func(p *pair) *pair { return p })
	for _, h := range tab.Handles() {
		p, _ := tab.Get(h)
		q, ok := own.Get(h)
		if !ok || q == p || *q != *p {
			t.Errorf("Get(%d) of a copy: %v, %v", h, q, ok)
		}
		q.name = "other"
		if p.name != strconv.Itoa(h) {
			t.Errorf("%d: a value of the copy is one of the table", h)
		}
		if s, ok := shared.Get(h); s != p || !ok {
			t.Errorf("Get(%d) of a copy by the same pointers: %v, %v", h, s, ok)
		}
	}
}

func TestCopyWhileOwnChangesTheTable(t *testing.T) { // P19.3, R1: a copy is of the table as it was; own may do with that what it likes
	b := newBoth[int](t)
	for i := range 12 {
		b.add(i + 1)
	}
	b.drop(5)
	want := b.m.copied(func(v int) int { return 10 * v })
	of := []int{}
	note := called(&of)
	c := b.tab.Copy(func(v int) int {
		b.drop(v - 1)
		b.drop(v)
		b.add(100 + v)
		b.goes(b.m.next + 1)
		return note(v)
	})
	isAs(t, c, want, "a copy")
	b.same("the table")
	if !slices.Equal(of, []int{1, 2, 3, 4, 5, 7, 8, 9, 10, 11, 12}) {
		t.Errorf("own is called of %v", of)
	}
}

func TestCopyWithoutAnswers(t *testing.T) { // P19.3, R1: Copy never panics: where own is nil, or panics, the zero value stands
	b := newBoth[int](t)
	for i := range 6 {
		b.add(i + 1)
	}
	isAs(t, b.tab.Copy(nil), b.m.copied(func(int) int { return 0 }), "no own")
	b.same("behind a copy by none")
	c := b.tab.Copy(func(v int) int {
		if v%2 == 0 {
			panic("own")
		}
		return -v
	})
	isAs(t, c, b.m.copied(func(v int) int { return -(v * (v % 2)) }), "an own that panics")
	b.same("behind a copy by one that panics")
}

func TestAnswersAreNoPart(t *testing.T) { // R3: a list of handles can be written over and grown: nothing of the table, nor of other lists, changes
	for _, many := range []int{0, 1, 5, 15, 16} {
		b := newBoth[int](t)
		for i := range many {
			b.add(i)
		}
		b.drop(2)
		first, second := b.tab.Handles(), b.tab.Handles()
		kept := slices.Clone(second)
		for i := range first {
			first[i] = -9
		}
		_ = append(first, 77, 78)
		b.same("behind a list that is written over")
		if !slices.Equal(second, kept) {
			t.Errorf("of %d: two lists share numbers", many)
		}
		b.drop(0)
		b.add(60)
		b.add(61)
		if !slices.Equal(second, kept) {
			t.Errorf("of %d: a list changes with the table", many)
		}
	}
}

func TestHandlesAreNeverGivenTwice(t *testing.T) { // P19.4: one stays with its value till it is dropped, and then for good
	b := newBoth[int](t)
	given, last := map[int]bool{}, -1
	for i := range 300 {
		h, err := b.tab.Add(1000 + i)
		if err != api.OK || given[h] || h <= last {
			t.Fatalf("Add %d: %d, %v, where %d was given last", i, h, err, last)
		}
		_, _ = b.m.add(1000 + i)
		given[h], last = true, h
		for gone := range given {
			if _, there := b.m.values[gone]; there {
				continue
			}
			if v, ok := b.tab.Get(gone); v != 0 || ok {
				t.Fatalf("%d was dropped, but Get tells %d, %v", gone, v, ok)
			}
			if err := b.tab.Lay(gone, 5); err == api.OK {
				t.Fatalf("%d was dropped, but it is laid", gone)
			}
		}
		if i%7 == 3 {
			b.goes(b.m.next + i%3)
		}
		for l := b.m.handles(); len(l) > i%9+1; l = b.m.handles() {
			b.drop(l[i%len(l)])
		}
	}
}

// walk does many things of many kinds, one behind the other, each held against the model.
func walk[T comparable](t *testing.T, r *rand.Rand, of func(int) T) {
	t.Helper()
	b := newBoth[T](t)
	number := func() int {
		all := numbers()
		return []int{r.IntN(40), b.m.next, b.m.next + r.IntN(5), b.m.next - 1, all[r.IntN(len(all))]}[r.IntN(5)]
	}
	// Most walks are long ahead of the end.
	small := func() int { return min(number(), b.m.next+r.IntN(4)) }
	for i := range 150 {
		switch r.IntN(12) {
		case 0, 1, 2, 3, 4:
			b.add(of(i))
		case 5, 6, 7:
			l := append(b.m.handles(), number())
			b.drop(l[r.IntN(len(l))])
		case 8:
			b.lay(small(), of(i))
		case 9:
			b.goes(small())
		case 10:
			b.lay(number(), of(i))
		case 11:
			turn := func(v T) T { return v }
			b = &both[T]{t, b.tab.Copy(turn), b.m.copied(turn)}
			b.same("a copy")
		}
	}
}

func TestWalks(t *testing.T) { // P19.1 to P19.4: whatever is done, in any order
	r := rand.New(rand.NewPCG(19, 2))
	for range 60 {
		walk(t, r, func(n int) int { return n })
		walk(t, r, strconv.Itoa)
		walk(t, r, func(n int) pair { return pair{name: strconv.Itoa(n)} })
		walk(t, r, func(n int) *pair { return &pair{name: strconv.Itoa(n)} })
	}
}
