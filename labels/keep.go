package labels

import (
	"slices"
	"strconv"
	"strings"

	"weir/api"
)

// Keep: the labels of these names, or, with without, all others but the metric's name.
func Keep(ls []api.Label, names []string, without bool) []api.Label {
	stays := keeper(names, without)
	var kept []api.Label
	for _, l := range ls {
		if stays(l.Name) {
			kept = append(kept, copied(l))
		}
	}
	return kept
}

// Key: a text that is the same just where what Keep leaves is the same. A length stands ahead of each text, so that no byte of a text can be taken for the end of it.
func Key(ls []api.Label, names []string, without bool) string {
	stays := keeper(names, without)
	var key strings.Builder
	for _, l := range ls {
		if stays(l.Name) {
			measured(&key, l.Name)
			measured(&key, l.Value)
		}
	}
	return key.String()
}

func measured(key *strings.Builder, text string) {
	key.WriteString(strconv.Itoa(len(text)))
	key.WriteByte(':')
	key.WriteString(text)
}

// keeper: whether a label of a name stays. The names are sorted, so that many labels held against many names take no time to speak of.
func keeper(names []string, without bool) func(name string) bool {
	sorted := slices.Sorted(slices.Values(names))
	return func(name string) bool {
		_, named := slices.BinarySearch(sorted, name)
		if without {
			return !named && name != api.MetricName
		}
		return named
	}
}
