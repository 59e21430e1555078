package solver

import (
	"cmp"
	"slices"

	"chalkline/api"
)

const (
	shrink = 1024 // by which activities are divided when one of them gets too large
	growth = 20   // one part in so many is added to the increment after a conflict
)

// order is a binary heap of variables by the order of package heap. That package copies a heap for each of its calls, which would be too dear in a search.
type order struct {
	act   []int
	by    int
	queue []int
	at    []int // the position of a variable in the queue, or -1
	all   []int // the variables as they were queued at first
}

// newOrder returns the order of a valid heap.
func newOrder(h api.Heap) *order {
	o := &order{act: slices.Clone(h.Act), by: h.By, queue: slices.Clone(h.L), at: make([]int, len(h.Act)), all: h.L}
	for i, v := range o.queue {
		o.at[v] = i
	}
	return o
}

// heap returns the order as a heap with all variables.
func (o *order) heap() api.Heap {
	// Little has changed as a rule, and what is nearly sorted is sorted fast.
	h := api.Heap{Act: o.act, L: slices.Clone(o.all), By: o.by}
	slices.SortFunc(h.L, o.compare)
	return h
}

// compare is negative if v precedes u.
func (o *order) compare(v, u int) int {
	return cmp.Or(cmp.Compare(o.act[u], o.act[v]), cmp.Compare(v, u))
}

// put puts a variable at a position of the queue.
func (o *order) put(i, v int) {
	o.queue[i], o.at[v] = v, i
}

// up moves the variable at a position towards the front.
func (o *order) up(i int) {
	v := o.queue[i]
	for i > 0 {
		parent := (i - 1) / 2
		if o.compare(o.queue[parent], v) < 0 {
			break
		}
		o.put(i, o.queue[parent])
		i = parent
	}
	o.put(i, v)
}

// down moves the variable at a position towards the back.
func (o *order) down(i int) {
	v := o.queue[i]
	for 2*i+1 < len(o.queue) {
		child := 2*i + 1
		if child+1 < len(o.queue) && o.compare(o.queue[child+1], o.queue[child]) < 0 {
			child++
		}
		if o.compare(v, o.queue[child]) < 0 {
			break
		}
		o.put(i, o.queue[child])
		i = child
	}
	o.put(i, v)
}

// pop removes and returns the first variable, or returns 0 if there is none.
func (o *order) pop() int {
	if len(o.queue) == 0 {
		return 0
	}
	v, last := o.queue[0], len(o.queue)-1
	o.put(0, o.queue[last])
	o.queue, o.at[v] = o.queue[:last], -1
	if last > 0 {
		o.down(0)
	}
	return v
}

// push queues a variable, unless it is queued.
func (o *order) push(v int) {
	if o.at[v] < 0 {
		o.queue = append(o.queue, v)
		o.up(len(o.queue) - 1)
	}
}

// bump increases the activity of a variable.
func (o *order) bump(v int) {
	if o.act[v] += o.by; o.act[v] > api.MaxNum {
		o.rescale()
	}
	if o.at[v] >= 0 {
		o.up(o.at[v])
	}
}

// decay increases the increment.
func (o *order) decay() {
	if o.by += o.by/growth + 1; o.by > api.MaxNum {
		o.rescale()
	}
}

// rescale divides all activities and the increment. Rounding may change the order.
func (o *order) rescale() {
	for v := range o.act {
		o.act[v] /= shrink
	}
	o.by = max(1, o.by/shrink)
	slices.SortFunc(o.queue, o.compare)
	for i, v := range o.queue {
		o.at[v] = i
	}
}
