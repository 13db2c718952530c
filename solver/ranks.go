package solver

// ranks is a heap of numbers, the least one first.
type ranks []int

func (l ranks) Len() int           { return len(l) }
func (l ranks) Less(i, j int) bool { return l[i] < l[j] }
func (l ranks) Swap(i, j int)      { l[i], l[j] = l[j], l[i] }

func (l *ranks) Push(x any) {
	n, _ := x.(int)
	*l = append(*l, n)
}

func (l *ranks) Pop() any {
	last := len(*l) - 1
	n := (*l)[last]
	*l = (*l)[:last]
	return n
}
