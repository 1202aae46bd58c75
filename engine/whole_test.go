package engine_test

import (
	"testing"

	"weir/api"
)

// P24.1: queries of all kinds, at one time and over ranges, some with slips, answer what the words say.
func TestAsTheWordsSay(t *testing.T) {
	c := newChance(1)
	c.ends = true
	told := map[api.Errno]int{}
	for i := range 4000 {
		d := c.dataset(12)
		s := load(d)
		query := c.query(4)
		if i%8 == 0 {
			query = c.spoilt(query)
		}
		told[checkInstant(t, s, d, query, c.instant())]++
		start := c.instant()
		checkRange(t, s, d, query, start, start+int64(c.dice.IntN(300000)-3000), pick[int64](c, 1000, 15000, 60000, 100000, 0, -1))
	}
	for _, e := range []api.Errno{0, api.ErrDup, api.ErrTime, api.ErrManyToMany} {
		if told[e] < 3 || e == 0 && told[e] < 2500 {
			t.Errorf("%d answers with the error %d", told[e], e)
		}
	}
}
