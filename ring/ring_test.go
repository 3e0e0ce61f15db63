package ring_test

import (
	"math"
	"slices"
	"strconv"
	"testing"

	"ballast/api"
	"ballast/ring"
)

// part and pair are things that are structs and arrays.
type part struct {
	kind int
	name string
	ends [3]int
}

type pair [2]int

func number(i int) int  { return i + 1 }
func text(i int) string { return "thing " + strconv.Itoa(i) }
func record(i int) part { return part{kind: i, name: text(i), ends: [3]int{i, -i, 7}} }
func array(i int) pair  { return pair{i, i + 1} }

// row is so many things, from the one numbered first on.
func row[T any](thing func(int) T, first, size int) []T {
	list := []T{}
	for i := range size {
		list = append(list, thing(first+i))
	}
	return list
}

// holds tells whether the queue is as it should be in all that can be asked without changing it, and asks twice.
func holds[T comparable](t *testing.T, r *ring.Ring[T], limit, lost int, want []T) {
	t.Helper()
	for range 2 {
		if all := r.All(); !slices.Equal(all, want) {
			t.Fatalf("All = %v, want %v", all, want)
		}
		if r.Len() != len(want) || r.Cap() != limit || r.Lost() != lost {
			t.Fatalf("Len %d, Cap %d, Lost %d; want %d, %d, %d", r.Len(), r.Cap(), r.Lost(), len(want), limit, lost)
		}
	}
}

// put puts the list and holds what was dropped against what should be.
func put[T comparable](t *testing.T, r *ring.Ring[T], dropped int, list ...T) {
	t.Helper()
	if n := r.Put(list...); n != dropped {
		t.Fatalf("Put(%v) = %d, want %d", list, n, dropped)
	}
}

// take takes the one that should come.
func take[T comparable](t *testing.T, r *ring.Ring[T], want T) {
	t.Helper()
	if thing, ok := r.Take(); thing != want || !ok {
		t.Fatalf("Take = %v, %t; want %v, true", thing, ok, want)
	}
}

// takeNone takes of a queue in which there is none.
func takeNone[T comparable](t *testing.T, r *ring.Ring[T]) {
	t.Helper()
	var zero T
	if thing, ok := r.Take(); thing != zero || ok {
		t.Fatalf("Take = %v, %t; want %v, false", thing, ok, zero)
	}
}

// P4.1, the chapter's first example.
func TestQueueExample(t *testing.T) {
	r := ring.New[int](2)
	put(t, r, 1, 1, 2, 3)
	holds(t, r, 2, 1, []int{1, 2})
	take(t, r, 1)
	put(t, r, 0, 4)
	take(t, r, 2)
	take(t, r, 4)
	takeNone(t, r)
	holds(t, r, 2, 1, nil)
}

// P4.1, the chapter's second example, and the edges about it.
func TestCap(t *testing.T) {
	for _, c := range []struct{ cap, want int }{
		{0, 1}, {100, 64},
		{1, 1}, {2, 2}, {3, 3}, {63, 63}, {64, 64}, {65, 64},
		{-1, 1}, {-64, 1}, {math.MinInt, 1}, {math.MaxInt, 64},
		{math.MinInt32, 1}, {math.MaxInt32, 64}, {1 << 32, 64}, {-1 << 32, 1},
	} {
		r := ring.New[int](c.cap)
		holds(t, r, c.want, 0, nil)
		put(t, r, 5, row(number, 0, c.want+5)...)
		holds(t, r, c.want, 5, row(number, 0, c.want))
	}
	if api.MaxQueue != 64 {
		t.Error("the greatest queue is for", api.MaxQueue)
	}
}

// eachType runs what holds for things of any type.
func eachType(t *testing.T, numbers, texts, structs, arrays func(*testing.T)) {
	t.Run("numbers", numbers)
	t.Run("texts", texts)
	t.Run("structs", structs)
	t.Run("arrays", arrays)
}

// P4.1: a new queue is empty, and answers the zero thing and false, however often it is asked.
func TestEmpty(t *testing.T) {
	eachType(t, empty[int], empty[string], empty[part], empty[pair])
}

func empty[T comparable](t *testing.T) {
	r := ring.New[T](3)
	holds(t, r, 3, 0, nil)
	for range 3 {
		takeNone(t, r)
		put(t, r, 0)
		put(t, r, 0, []T(nil)...)
		put(t, r, 0, []T{}...)
		holds(t, r, 3, 0, nil)
	}
}

// P4.1: lists of none, of one, of as many as there is room for, and of more, into queues of each size that hold already none to all.
func TestPut(t *testing.T) {
	eachType(t,
		func(t *testing.T) { putEach(t, number) },
		func(t *testing.T) { putEach(t, text) },
		func(t *testing.T) { putEach(t, record) },
		func(t *testing.T) { putEach(t, array) })
}

func putEach[T comparable](t *testing.T, thing func(int) T) {
	for limit := 1; limit <= 64; limit++ {
		for had := 0; had <= limit; had++ {
			room := limit - had
			for _, size := range []int{0, 1, room - 1, room, room + 1, limit, limit + 1, 200} {
				if size < 0 {
					continue
				}
				r := ring.New[T](limit)
				put(t, r, 0, row(thing, 0, had)...)
				dropped := max(size-room, 0)
				put(t, r, dropped, row(thing, had, size)...)
				holds(t, r, limit, dropped, row(thing, 0, had+size-dropped))
			}
		}
	}
}

// P4.1: the oldest one is gone when it is taken, those behind it stay, and its room is to be had again.
func TestTake(t *testing.T) {
	eachType(t,
		func(t *testing.T) { takeEach(t, number) },
		func(t *testing.T) { takeEach(t, text) },
		func(t *testing.T) { takeEach(t, record) },
		func(t *testing.T) { takeEach(t, array) })
}

func takeEach[T comparable](t *testing.T, thing func(int) T) {
	for _, limit := range []int{1, 2, 3, 63, 64} {
		r := ring.New[T](limit)
		put(t, r, 0, row(thing, 0, limit)...)
		for i := range 3 * limit { // so that each place is used again and again
			take(t, r, thing(i))
			holds(t, r, limit, i, row(thing, i+1, limit-1))
			put(t, r, 1, thing(i+limit), thing(-1))
		}
		for i := range limit {
			take(t, r, thing(3*limit+i))
			holds(t, r, limit, 3*limit, row(thing, 3*limit+i+1, limit-1-i))
		}
		takeNone(t, r)
		holds(t, r, limit, 3*limit, nil)
	}
}

// P4.1: a thing that is like the zero thing, or like another one, is a thing as each other.
func TestLikeThings(t *testing.T) {
	r := ring.New[string](3)
	put(t, r, 1, "", "a", "", "a")
	holds(t, r, 3, 1, []string{"", "a", ""})
	take(t, r, "")
	take(t, r, "a")
	take(t, r, "")
	takeNone(t, r)
}

// P4.1: things of types that can't be compared, of interfaces, and of no size.
func TestOtherTypes(t *testing.T) {
	lists := ring.New[[]int](2)
	if n := lists.Put([]int{1, 2}, nil, []int{3}); n != 1 {
		t.Errorf("lists: %d dropped", n)
	}
	if list, ok := lists.Take(); !ok || !slices.Equal(list, []int{1, 2}) {
		t.Errorf("lists: %v, %t", list, ok)
	}
	if list, ok := lists.Take(); !ok || list != nil {
		t.Errorf("lists: %v, %t", list, ok)
	}
	calls := ring.New[func() int](1)
	calls.Put(func() int { return 7 })
	if call, ok := calls.Take(); !ok || call() != 7 {
		t.Error("the function is another one")
	}
	if call, ok := calls.Take(); ok || call != nil {
		t.Error("a function of none")
	}
	mixed := ring.New[any](4)
	put(t, mixed, 0, nil, 1, "a")
	take(t, mixed, nil)
	take(t, mixed, 1)
	take(t, mixed, "a")
	takeNone(t, mixed)
	nothings := ring.New[struct{}](2)
	put(t, nothings, 1, struct{}{}, struct{}{}, struct{}{})
	holds(t, nothings, 2, 1, make([]struct{}, 2))
}

// P4.1 and P4.2: whatever the row of calls, all rows of six calls, the queue answers as a plain list does of which what is beyond the limit is cut off.
func TestEachRow(t *testing.T) {
	const calls, kinds = 6, 5 // lists of 0 to 3 things, and Take
	rows := 1
	for range calls {
		rows *= kinds
	}
	for limit := 1; limit <= 4; limit++ {
		for n := range rows {
			oneRow(t, limit, calls, kinds, n)
		}
	}
}

func oneRow(t *testing.T, limit, calls, kinds, n int) {
	t.Helper()
	r := ring.New[int](limit)
	list, lost, next := []int{}, 0, 1
	for range calls {
		kind := n % kinds
		n /= kinds
		switch {
		case kind < kinds-1:
			size := len(list) + kind
			list = append(list, row(number, next, kind)...)
			next += kind
			list = list[:min(size, limit)]
			lost += size - len(list)
			put(t, r, size-len(list), row(number, next-kind, kind)...)
		case len(list) > 0:
			take(t, r, list[0])
			list = list[1:]
		default:
			takeNone(t, r)
		}
		holds(t, r, limit, lost, list)
	}
}

// P4.2: of a long row of things each one comes out once, in its order, but those at a list's end that Put told as dropped.
func TestOrder(t *testing.T) {
	eachType(t,
		func(t *testing.T) { order(t, number) },
		func(t *testing.T) { order(t, text) },
		func(t *testing.T) { order(t, record) },
		func(t *testing.T) { order(t, array) })
}

func order[T comparable](t *testing.T, thing func(int) T) {
	for _, limit := range []int{1, 2, 7, 63, 64} {
		r := ring.New[T](limit)
		came, kept, put, lost := []T{}, []T{}, 0, 0
		for i := range 500 {
			size := i * i % (limit + 5)
			dropped := r.Put(row(thing, put, size)...)
			kept = append(kept, row(thing, put, size-dropped)...)
			put += size
			lost += dropped
			for range i * 7 % (limit + 3) {
				if one, ok := r.Take(); ok {
					came = append(came, one)
				}
			}
			if whole := slices.Concat(came, r.All()); !slices.Equal(whole, kept) {
				t.Fatalf("for %d: came and stay %v, kept %v", limit, whole, kept)
			}
		}
		if r.Lost() != lost || lost == 0 || len(came) == 0 {
			t.Errorf("for %d: Lost %d, want %d; %d came", limit, r.Lost(), lost, len(came))
		}
	}
}

// R5: a list that is handed in, and its spare memory, stay as they are, and the queue doesn't change with them.
func TestListIsNotKept(t *testing.T) {
	list := []int{1, 2, 3, 4, 5, 6}
	r := ring.New[int](4)
	put(t, r, 0, list[:2]...)
	list[0], list[1] = 10, 20
	holds(t, r, 4, 0, []int{1, 2})
	take(t, r, 1)
	put(t, r, 1, list[2:6]...)
	list[2] = 30
	holds(t, r, 4, 1, []int{2, 3, 4, 5})
	if !slices.Equal(list, []int{10, 20, 30, 4, 5, 6}) {
		t.Errorf("changed: %v", list)
	}
}

// R5: what All answers is new memory: the queue doesn't change with it, nor it with the queue.
func TestAllIsNew(t *testing.T) {
	r := ring.New[int](4)
	put(t, r, 0, 1, 2, 3)
	all, other := r.All(), r.All()
	all[0] = 10
	all = append(all[:1], 20, 30, 40)
	holds(t, r, 4, 0, []int{1, 2, 3})
	take(t, r, 1)
	put(t, r, 0, 4, 5)
	if !slices.Equal(all, []int{10, 20, 30, 40}) || !slices.Equal(other, []int{1, 2, 3}) {
		t.Errorf("changed: %v, %v", all, other)
	}
	put(t, r, 4, r.All()...)
	holds(t, r, 4, 4, []int{2, 3, 4, 5})
}

// R4 and R6: two queues have nothing to do with one another, and answer the same for the same calls.
func TestTwoQueues(t *testing.T) {
	list := []int{1, 2, 3}
	a, b := ring.New[int](2), ring.New[int](2)
	put(t, a, 1, list...)
	holds(t, b, 2, 0, nil)
	put(t, b, 1, list...)
	take(t, a, 1)
	put(t, a, 0, 9)
	holds(t, a, 2, 1, []int{2, 9})
	holds(t, b, 2, 1, []int{1, 2})
}
