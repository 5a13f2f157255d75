// Package climb is no layer: it is how ways lead up a tree, whatever the tree's sums are of.
package climb

// Way: the way of the i-th sum of the height 0, up to a height: of each height below that the other one below the same sum. What sum tells is the i-th one of a height.
func Way(i uint32, height int, sum func(height int, i uint32) []byte) [][]byte {
	way := make([][]byte, height)
	for g := range way {
		// Two below one sum are alike but for their last bit.
		way[g] = sum(g, i>>g^1)
	}
	return way
}

// Up: where the i-th sum of the height 0, and its way, lead. What above tells is the i-th sum of a height, of the two below it.
func Up(sum []byte, i uint32, way [][]byte, above func(height int, i uint32, left, right []byte) []byte) []byte {
	for g, other := range way {
		left, right := sum, other
		if i%2 == 1 {
			left, right = other, sum
		}
		i /= 2
		sum = above(g+1, i, left, right)
	}
	return sum
}
