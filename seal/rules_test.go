package seal_test

import (
	"bytes"
	"math"
	"slices"
	"strconv"
	"strings"
	"sync"
	"testing"

	"weir/api"
	"weir/seal"
)

// hostile: texts that are wrong, cut short, long or no UTF-8, and the pieces of a right token.
func hostile() []string {
	out := []string{"", ".", "..", "=", "A", "AA", "AB", "\x00", "\xff", "\x80.\x80", "é", "\xc3", "\xf0\x9f\x98", "\n", " ", "+/", "-_"}
	good := sealed([]byte("key"), wordsPack(api.Claim{Expiry: 1, Policy: "p"}))
	for n := range good {
		out = append(out, good[:n], good[n:], good[:n]+"\xff"+good[n:])
	}
	for _, s := range []string{"A", ".", "=", "\xff", "_", "é", "\x00"} {
		for _, n := range append(lengths(), 4095, 4097, 300000) {
			out = append(out, strings.Repeat(s, n), "AA."+strings.Repeat(s, n), strings.Repeat(s, n)+".AA")
		}
	}
	return out
}

// P1, rule 1: no call panics, and each ends.
func TestTotal(t *testing.T) {
	lists := [][]byte{nil, {}, {0}, make([]byte, 0, 100), make([]byte, 7), make([]byte, 8, 2000), bytes.Repeat([]byte{255}, 1032), make([]byte, 1033), make([]byte, 300000)}
	claims := []api.Claim{{}, {Expiry: math.MaxInt64}, {Expiry: math.MinInt64, Policy: "\xff"}, {Policy: strings.Repeat("\x00", 1024)}, {Policy: strings.Repeat("\xff", 1025)}, {Expiry: -1, Policy: strings.Repeat("x", 300000)}}
	for _, b := range lists {
		seal.Encode(b)
		seal.Unpack(b)
		for _, c := range claims {
			seal.Mint(b, c)
		}
	}
	for _, c := range claims {
		seal.Pack(c)
	}
	for _, s := range hostile() {
		seal.Decode(s)
		seal.Open(nil, s)
		seal.Open([]byte("key"), s)
		seal.Unpack([]byte(s))
	}
}

// P1, rule 3: beside an error stands the zero value.
func TestZeroBesideAnError(t *testing.T) {
	key := []byte("key")
	for _, s := range hostile() {
		if b, e := seal.Decode(s); e != api.OK && len(b) > 0 {
			t.Errorf("Decode(%.20q) = %.20q beside error %d", s, b, e)
		}
		if c, e := seal.Open(key, s); e != api.OK && c != (api.Claim{}) {
			t.Errorf("Open(%.20q) = %d, %.20q beside error %d", s, c.Expiry, c.Policy, e)
		}
		if c, e := seal.Unpack([]byte(s)); e != api.OK && c != (api.Claim{}) {
			t.Errorf("Unpack(%.20q) = %d, %.20q beside error %d", s, c.Expiry, c.Policy, e)
		}
		if b, e := seal.Pack(api.Claim{Expiry: 1, Policy: s}); e != api.OK && len(b) > 0 {
			t.Errorf("Pack(1, %.20q) = %.20q beside error %d", s, b, e)
		}
		if token, e := seal.Mint(key, api.Claim{Expiry: 1, Policy: s}); e != api.OK && token != "" {
			t.Errorf("Mint(1, %.20q) = %.20q beside error %d", s, token, e)
		}
	}
}

// P1, rule 4: nil and the empty list are one and the same.
func TestNilIsEmpty(t *testing.T) {
	empty := make([]byte, 0, 10)
	c := api.Claim{Expiry: 9, Policy: "p"}
	one, _ := seal.Mint(nil, c)
	two, _ := seal.Mint(empty, c)
	if one != two || one == "" {
		t.Errorf("the tokens under no key are %q and %q", one, two)
	}
	checkOpen(t, nil, two, c, api.OK)
	checkOpen(t, empty, one, c, api.OK)
	if seal.Encode(empty) != seal.Encode(nil) {
		t.Error("the texts of no bytes are two")
	}
	if _, e := seal.Unpack(empty); e != api.ErrPayload {
		t.Errorf("Unpack of no bytes: %d", e)
	}
}

// roomy: a list with room behind it that holds 0xEE, and the whole of that memory.
func roomy(p string) (list, whole []byte) {
	whole = append([]byte(p), bytes.Repeat([]byte{0xEE}, 200)...)
	return whole[:len(p)], whole
}

// flip: every bit of a list is turned over, those of its room too.
func flip(list []byte) {
	whole := list[:cap(list)]
	for i := range whole {
		whole[i] = ^whole[i]
	}
}

// P5.5: what is handed in stays as it is, the room behind it too.
func TestListsStayAsTheyAre(t *testing.T) {
	r := someRand()
	c := api.Claim{Expiry: 258, Policy: `a="b"`}
	for _, n := range lengths() {
		list, whole := roomy(someText(r, n))
		before := slices.Clone(whole)
		token := sealed(list, wordsPack(c))
		calls := map[string]func(){
			"Encode":          func() { seal.Encode(list) },
			"Unpack":          func() { seal.Unpack(list) },
			"Mint":            func() { seal.Mint(list, c) },
			"Open":            func() { seal.Open(list, token) },
			"Open, wrong tag": func() { seal.Open(list, "AA.AA") },
		}
		for name, call := range calls {
			call()
			if !bytes.Equal(whole, before) {
				t.Errorf("%s has changed a list of %d bytes or the room behind it", name, n)
			}
		}
	}
}

// P5.5: what the room behind a list holds counts for nothing.
func TestRoomCountsForNothing(t *testing.T) {
	r := someRand()
	c := api.Claim{Expiry: 258, Policy: `a="b"`}
	for _, n := range lengths() {
		p := someText(r, n)
		list, _ := roomy(p)
		if got := seal.Encode(list); got != wordsEncode(p) {
			t.Errorf("Encode of %d bytes with room: %.30q", n, got)
		}
		checkMint(t, list, c, sealed([]byte(p), wordsPack(c)))
		if got, e := seal.Unpack(list); n >= 8 && n <= 1032 && (e != api.OK || got != wordsUnpack(p)) {
			t.Errorf("Unpack of %d bytes with room: %d, %.20q, %d", n, got.Expiry, got.Policy, e)
		} else if n < 8 && e != api.ErrPayload || n > 1032 && e != api.ErrLong {
			t.Errorf("Unpack of %d bytes with room: %d", n, e)
		}
	}
}

// P5.5: nothing that is handed in is kept: what the caller writes into it afterwards isn't seen.
func TestListsAreNotKept(t *testing.T) {
	r := someRand()
	c := api.Claim{Expiry: 258, Policy: `a="b"`}
	for _, n := range lengths() {
		p := someText(r, n)
		payload := wordsPack(api.Claim{Expiry: 7, Policy: p})
		key, handed, packed := []byte(p), []byte(p), []byte(payload)
		text := seal.Encode(handed)
		token, _ := seal.Mint(key, c)
		opened, _ := seal.Open(key, token)
		unpacked, e := seal.Unpack(packed)
		flip(key)
		flip(handed)
		flip(packed)
		if text != wordsEncode(p) || token != sealed([]byte(p), wordsPack(c)) || opened != c {
			t.Errorf("a list of %d bytes that was changed after the call has changed what was answered", n)
		}
		if e == api.OK && unpacked != wordsUnpack(payload) {
			t.Errorf("a payload of %d bytes that was changed after the call has changed its claim", len(payload))
		}
		if n > 0 { // of no bytes none could be changed
			unopened(t, key, token, api.ErrTag)
		}
	}
}

// P5.5: an answer is the caller's: what it writes over it, the room behind it too, is seen in no other answer.
func TestAnswersAreNewMemory(t *testing.T) {
	r := someRand()
	for _, n := range lengths() {
		p := someText(r, n)
		text := wordsEncode(p)
		one, _ := seal.Decode(text)
		two, _ := seal.Decode(text)
		flip(one)
		if string(two) != p || text != wordsEncode(p) {
			t.Errorf("two answers of Decode, of %d bytes, share their memory", n)
		}
		checkDecode(t, text, p, api.OK)
		c := api.Claim{Expiry: int64(n), Policy: p}
		first, e := seal.Pack(c)
		if e != api.OK {
			continue
		}
		second, _ := seal.Pack(c)
		flip(first)
		if string(second) != wordsPack(c) || c.Policy != p {
			t.Errorf("two answers of Pack, of a policy of %d bytes, share their memory", n)
		}
		checkClaim(t, c, wordsPack(c))
	}
}

// P2 and rule 6: the same arguments give the same answers, whoever asks beside and whatever was asked ahead.
func TestNothingIsKept(t *testing.T) {
	texts := hostile()
	ask := func() string {
		var b strings.Builder
		for i, s := range texts {
			if len(s) > 5000 {
				continue
			}
			key := []byte(texts[len(texts)-1-i])
			d, e := seal.Decode(s)
			b.WriteString(string(d) + strconv.Itoa(int(e)))
			token, e := seal.Mint(key, api.Claim{Expiry: int64(i), Policy: s})
			b.WriteString(token + strconv.Itoa(int(e)))
			c, e := seal.Open(key, token)
			b.WriteString(strconv.FormatInt(c.Expiry, 10) + c.Policy + strconv.Itoa(int(e)))
			_, e = seal.Open(key, s)
			b.WriteString(strconv.Itoa(int(e)) + seal.Encode([]byte(s)))
		}
		return b.String()
	}
	want := ask()
	var all sync.WaitGroup
	for range 4 {
		all.Go(func() {
			if ask() != want {
				t.Error("the same questions were answered in two ways")
			}
		})
	}
	all.Wait()
}
