package num_test

import "iter"

// texts: every text of at most so many of these bytes.
func texts(bytes string, most int) iter.Seq[string] {
	return func(yield func(string) bool) {
		layer := []string{""}
		for range most + 1 {
			var longer []string
			for _, s := range layer {
				if !yield(s) {
					return
				}
				for i := range len(bytes) {
					longer = append(longer, s+bytes[i:i+1])
				}
			}
			layer = longer
		}
	}
}
