package sha_test

import (
	"bytes"
	"math"
	"slices"
	"strings"
	"sync"
	"testing"

	"weir/sha"
)

// P1, rule 1: no call panics, and each ends, on zero values, nil and empty lists, long ones and numbers at both ends.
func TestTotal(t *testing.T) {
	lists := [][]byte{nil, {}, {0}, make([]byte, 0, 100), make([]byte, 63), make([]byte, 64), make([]byte, 65), bytes.Repeat([]byte{255}, 1000), make([]byte, 300000)}
	for _, a := range lists {
		sha.Sum(a)
		sha.Hex(a)
		sha.New().Write(a).Sum()
		for _, b := range lists {
			sha.Equal(a, b)
			sha.Hmac(a, b)
			sha.NewMac(a).Write(b).Write(a).Sum()
			sha.Hash{}.Write(a).Write(b).Sum()
			sha.Mac{}.Write(a).Write(b).Sum()
		}
	}
	for _, end := range []int{0, 8, 64, math.MaxInt32, math.MinInt32, math.MaxInt, math.MinInt} {
		for _, i := range []int{end - 1, end, end + 1} { // round the ends
			sha.Round(i)
			sha.Start(i)
		}
	}
}

// roomy: a list with room behind it that holds 0xEE, and the whole of that memory.
func roomy(p []byte) (list, whole []byte) {
	whole = append(slices.Clone(p), bytes.Repeat([]byte{0xEE}, 200)...)
	return whole[:len(p)], whole
}

// P1, rule 5: what is handed in stays as it is, the room behind it too.
func TestListsStayAsTheyAre(t *testing.T) {
	r := someRand()
	for _, n := range append(lengths()[:34], 16) {
		p, q := someBytes(r, n), someBytes(r, n)
		list, whole := roomy(p)
		other, otherWhole := roomy(q)
		before, otherBefore := slices.Clone(whole), slices.Clone(otherWhole)
		calls := map[string]func(){
			"Sum":       func() { sha.Sum(list) },
			"Write":     func() { sha.New().Write(list).Write(other).Sum() },
			"NewMac":    func() { sha.NewMac(list).Write(other).Sum() },
			"Mac.Write": func() { sha.NewMac(other).Write(list).Write(list).Sum() },
			"Hmac":      func() { sha.Hmac(list, other) },
			"Equal":     func() { sha.Equal(list, other) },
			"Hex":       func() { sha.Hex(list) },
		}
		for name, call := range calls {
			call()
			if !bytes.Equal(whole, before) || !bytes.Equal(otherWhole, otherBefore) {
				t.Errorf("%s has changed a list of %d bytes or the room behind it", name, n)
			}
		}
	}
}

// P1, rule 5: nothing that is handed in is kept: what the caller writes into it afterwards isn't seen.
func TestListsAreNotKept(t *testing.T) {
	r := someRand()
	for _, n := range lengths()[1:34] {
		p := someBytes(r, n)
		handed, key := slices.Clone(p), slices.Clone(p)
		h := sha.New().Write(handed)
		m := sha.NewMac(key).Write(handed)
		begun := sha.NewMac(key)
		text := sha.Hex(handed)
		for i := range handed {
			handed[i], key[i] = ^handed[i], ^key[i]
		}
		checkHash(t, kept{h, p})
		checkHash(t, kept{h.Write(p), slices.Concat(p, p)})
		checkMac(t, keptMac{m, p, p})
		checkMac(t, keptMac{begun.Write(p), p, p})
		if h != sha.New().Write(p) || m != sha.NewMac(p).Write(p) || begun != sha.NewMac(p) {
			t.Errorf("a list of %d bytes that was changed after the call has changed what was made of it", n)
		}
		if text != sha.Hex(p) {
			t.Error("a list that was changed after the call has changed its text")
		}
	}
}

// P1, rule 5: what the room behind a list holds counts for nothing.
func TestRoomCountsForNothing(t *testing.T) {
	r := someRand()
	for _, n := range append(lengths()[:34], 16) {
		p := someBytes(r, n)
		list, _ := roomy(p)
		exact := slices.Clip(slices.Clone(p))
		if sha.Sum(list) != sha.Sum(exact) || sha.New().Write(list) != sha.New().Write(exact) || sha.NewMac(list) != sha.NewMac(exact) || sha.Hmac(list, list) != sha.Hmac(exact, exact) {
			t.Errorf("the room behind %d bytes has been taken in", n)
		}
		if !sha.Equal(list, exact) || sha.Hex(list) != sha.Hex(exact) {
			t.Errorf("the room behind %d bytes has been looked at", n)
		}
	}
}

// P2 and rule 6: the same arguments give the same answers, whoever asks beside and whatever was asked ahead.
func TestNothingIsKept(t *testing.T) {
	r := someRand()
	var lists [][]byte
	for _, n := range lengths() {
		lists = append(lists, someBytes(r, n))
	}
	shared, mac := sha.New().Write([]byte("shared")), sha.NewMac([]byte("key")).Write([]byte("shared"))
	ask := func() string {
		var b strings.Builder
		for i, p := range lists {
			b.WriteString(hexOf(sha.Sum(p)) + hexOf(shared.Write(p).Sum()) + hexOf(mac.Write(p).Sum()))
			b.WriteString(hexOf(sha.Hmac(p, lists[len(lists)-1-i])))
		}
		for i := -2; i < 70; i++ {
			b.WriteString(string(rune('a'+sha.Round(i)%26)) + string(rune('a'+sha.Start(i)%26)))
		}
		return b.String()
	}
	want := ask()
	var all sync.WaitGroup
	for range 4 {
		all.Go(func() {
			if ask() != want {
				t.Error("the same questions were answered in two ways")
			}
		})
	}
	all.Wait()
}
