package partition

// forest holds a parent for each point; a root is its own parent, and the points of one tree are in one class.
type forest []int

// find returns the root of a point's tree.
func (f forest) find(point int) int {
	for f[point] != point {
		f[point] = f[f[point]] // shortens the path for later searches
		point = f[point]
	}
	return point
}

// union makes one tree of the trees of two points.
func (f forest) union(i, j int) {
	i, j = f.find(i), f.find(j)
	f[max(i, j)] = min(i, j)
}

// partition returns the partition into trees.
func (f forest) partition() []int {
	roots := make([]int, len(f))
	for i := range len(f) {
		roots[i] = f.find(i)
	}
	return Canonical(roots)
}
