package rx

// pageWords: so many words of 64 marks stand on a page.
const pageWords = 1024

const pageMarks = 64 * pageWords

// marks holds which numbers, from 0 on and below a size, have been added, a bit a number. A page is made when the first of its numbers comes: of a long text's points in a great program most are never tried.
type marks struct {
	size  int
	pages [][]uint64
}

// add: whether a number is new; from now on it is there.
func (m *marks) add(n int) bool {
	word := &m.page(n / pageMarks)[n%pageMarks/64]
	bit := uint64(1) << (n % 64)
	isNew := *word&bit == 0
	*word |= bit
	return isNew
}

// page: the page of that number. Where all numbers need less than a page, it is no longer than they need.
func (m *marks) page(k int) []uint64 {
	if m.pages == nil {
		m.pages = make([][]uint64, m.size/pageMarks+1)
	}
	if m.pages[k] == nil {
		m.pages[k] = make([]uint64, min(pageWords, m.size/64+1))
	}
	return m.pages[k]
}
