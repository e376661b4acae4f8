package diff

// walk through two texts at once, from their beginnings on, so that as many signs as may be stay:
// take is told the place in a of each one that does not, put the place in b of each one that is new.
func walk(a, b string, take, put func(at int)) {
	common := commonOfEnds(a, b)
	i, j := 0, 0
	for i < len(a) || j < len(b) {
		switch {
		case i < len(a) && j < len(b) && a[i] == b[j]:
			// That the first ones stay, if they are the same, never costs a later one.
			i, j = i+1, j+1
		case j == len(b) || i < len(a) && common[i+1][j] >= common[i][j+1]:
			take(i)
			i++
		default:
			put(j)
			j++
		}
	}
}

// commonOfEnds: how many signs may stay, at most, of the end of a from a place on, if it is to become the end of b from a place on.
func commonOfEnds(a, b string) [][]int {
	out := make([][]int, len(a)+1)
	out[len(a)] = make([]int, len(b)+1)
	for i := len(a) - 1; i >= 0; i-- {
		out[i] = make([]int, len(b)+1)
		for j := len(b) - 1; j >= 0; j-- {
			if a[i] == b[j] {
				out[i][j] = out[i+1][j+1] + 1
			} else {
				out[i][j] = max(out[i+1][j], out[i][j+1])
			}
		}
	}
	return out
}
