package solve

import "container/heap"

// line is a heap of places in an order.
type line []int

func (l line) Len() int           { return len(l) }
func (l line) Less(a, b int) bool { return l[a] < l[b] }
func (l line) Swap(a, b int)      { l[a], l[b] = l[b], l[a] }

// Push puts a place behind the others, where the library moves it on.
func (l *line) Push(place any) { *l = append(*l, place.(int)) }

// Pop takes the last place, where the library has put the least one.
func (l *line) Pop() any {
	last := len(*l) - 1
	place := (*l)[last]
	*l = (*l)[:last]
	return place
}

// work is a system that is being solved. A value whose sum has grown waits till its equation is looked at; then what need it are told.
type work struct {
	sums   []sum            // what each value's equation has come to
	askers [][]int          // which values need each
	order  []int            // values in the order in which they are looked at, if they wait
	place  []int            // where each stands in that order
	line   line             // the places of those that wait
	waits  map[int]struct{} // those that wait
}

// begin is the work on a system that may be: all values have their Consts, and wait.
func begin(up []uint64, s System) *work {
	n := len(s.Const)
	w := &work{
		sums: sums(up, s.Const), askers: askers(s.Needs), order: order(s.Needs),
		place: make([]int, n), waits: make(map[int]struct{}, n),
	}
	for place, value := range w.order {
		w.place[value] = place
	}
	for value := range n {
		w.wait(value)
	}
	return w
}

// askers turns needs round.
func askers(needs [][]int) [][]int {
	l := make([][]int, len(needs))
	for i, needed := range needs {
		for _, j := range needed {
			l[j] = append(l[j], i)
		}
	}
	return l
}

// order tells values, each behind those that it needs, but where these need it, too: so that what is known already is not told piece by piece.
func order(needs [][]int) []int {
	var l []int
	been := make([]bool, len(needs))
	var visit func(value int)
	visit = func(value int) {
		if been[value] {
			return
		}
		been[value] = true
		for _, j := range needs[value] {
			visit(j)
		}
		l = append(l, value)
	}
	for value := range needs {
		visit(value)
	}
	return l
}

// wait puts a value into the line, if it is not there already.
func (w *work) wait(value int) {
	if _, is := w.waits[value]; is {
		return
	}
	w.waits[value] = struct{}{}
	heap.Push(&w.line, w.place[value])
}

// next takes out of the line the value that stands first in the order.
func (w *work) next() int {
	value := w.order[heap.Pop(&w.line).(int)]
	delete(w.waits, value)
	return value
}

// tell tells a value's sum to those that need it. Each of these takes it into its own, so that none has to ask all that it needs again.
func (w *work) tell(value int) {
	for _, other := range w.askers[value] {
		grown := w.sums[other].join(w.sums[value])
		if grown != w.sums[other] {
			w.sums[other] = grown
			w.wait(other)
		}
	}
}
