package timer

// item is a timer in a line: its turn is how many were set ahead of it, its place where it lies, so that it can be taken out.
type item struct {
	Timer
	turn  uint64
	place int
}

// line is a heap, as the library asks for it: the first item is the one that is due first.
type line []*item

// Len is how many items lie there.
func (l line) Len() int { return len(l) }

// Less tells whether an item stands ahead of another one.
func (l line) Less(i, j int) bool {
	if l[i].At != l[j].At {
		return l[i].At < l[j].At
	}
	return l[i].turn < l[j].turn
}

// Swap lays each of two items where the other one lies.
func (l line) Swap(i, j int) {
	l[i], l[j] = l[j], l[i]
	l[i].place, l[j].place = i, j
}

// Push lays an item at the end.
func (l *line) Push(x any) {
	i := x.(*item)
	i.place = len(*l)
	*l = append(*l, i)
}

// Pop takes the item at the end. What is behind a slice's end is kept in memory, so the item is wiped there.
func (l *line) Pop() any {
	last := len(*l) - 1
	i := (*l)[last]
	(*l)[last] = nil
	*l = (*l)[:last]
	return i
}
