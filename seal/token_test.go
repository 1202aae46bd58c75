package seal_test

import (
	"math"
	"strings"
	"testing"

	"weir/api"
	"weir/seal"
)

// keys: none, short ones, those round a block of the hash, long ones; no two are one key to HMAC.
func keys() [][]byte {
	r := someRand()
	out := [][]byte{nil, []byte("key"), []byte("other"), {1}, {255}}
	for _, n := range []int{31, 32, 33, 63, 64, 65, 66, 128, 1000} {
		out = append(out, []byte(someText(r, n)))
	}
	return out
}

func checkMint(t *testing.T, key []byte, c api.Claim, token string) {
	t.Helper()
	if got, e := seal.Mint(key, c); e != api.OK || got != token {
		t.Errorf("Mint(%.10q, %d, %.20q) = %.60q, %d, want %.60q", key, c.Expiry, c.Policy, got, e, token)
	}
	checkOpen(t, key, token, c, api.OK)
}

func checkOpen(t *testing.T, key []byte, token string, want api.Claim, wantE api.Errno) {
	t.Helper()
	if got, e := seal.Open(key, token); got != want || e != wantE {
		t.Errorf("Open(%.10q, %.60q) = %d, %.20q, %d, want %d, %.20q, %d", key, token, got.Expiry, got.Policy, e, want.Expiry, want.Policy, wantE)
	}
}

// unopened: the token is refused with that error, and with no claim beside it.
func unopened(t *testing.T, key []byte, token string, want api.Errno) {
	t.Helper()
	checkOpen(t, key, token, api.Claim{}, want)
}

// P5.3: tokens that are known.
func TestKnownTokens(t *testing.T) {
	rows := []struct {
		key    string
		expiry int64
		policy string
		token  string
	}{
		{"", 0, ``, "AAAAAAAAAAA.83UYCrqSiIQB8ZGb5KhxWmJ2O2XBwQ4dCFjoHU1vn9I"},
		{"key", 258, `a="b"`, "AAAAAAAAAQJhPSJiIg.wj0UST9WYCagDyTP6zvl4NE2TQHMPDu_3BpopbqU__I"},
		{"key", -1, ``, "__________8.K7wYS5NcQRO8HblBa7mfQrZQHJU40qiclKc_r72qvPw"},
		{"secret", 1700000000000, `tenant="a"`, "AAABi8_laAB0ZW5hbnQ9ImEi.e9Selp1n0Wn-byTerj9zu5qO_YkUGhigmtXD7mjLdNM"},
		{strings.Repeat("k", 64), math.MaxInt64, `é`, "f__________DqQ.IcqvM1NcE4y72aiJnX3PAgcKIPsSxrJ8_hoZJzO8JWA"},
		{strings.Repeat("k", 65), math.MinInt64, `tenant="a.b" and env!="x"`, "gAAAAAAAAAB0ZW5hbnQ9ImEuYiIgYW5kIGVudiE9Ingi.PaLwaVLEQrjjhKw4SVnQ8fmpoQA27WF26Rjv4SZDiHI"},
	}
	for _, row := range rows {
		checkMint(t, []byte(row.key), api.Claim{Expiry: row.expiry, Policy: row.policy}, row.token)
	}
}

// P5.3: the chapter's examples of texts that aren't opened.
func TestOpenExamples(t *testing.T) {
	for _, key := range keys() {
		unopened(t, key, "", api.ErrToken)
		unopened(t, key, "AA", api.ErrToken)
		unopened(t, key, "AA.AA.AA", api.ErrToken)
		unopened(t, key, "A.AA", api.ErrBase64)
		unopened(t, key, "AA.AA", api.ErrTag)
		unopened(t, key, sealed(key, ""), api.ErrPayload)
		unopened(t, key, sealed(key, strings.Repeat("x", 1033)), api.ErrLong)
	}
	if front, _, _ := strings.Cut(sealed(nil, ""), "."); front != "" || len(sealed(nil, "")) != 44 {
		t.Error("the token of an empty payload isn't a point and 43 letters")
	}
}

// P5.3: all keys with all policies, and expiries among them, by the chapter's words.
func TestTokensByTheWords(t *testing.T) {
	for _, key := range keys() {
		for _, p := range policies() {
			for _, n := range []int64{0, -1, 258, math.MaxInt64, math.MinInt64} {
				c := api.Claim{Expiry: n, Policy: p}
				checkMint(t, key, c, sealed(key, wordsPack(c)))
			}
		}
	}
	r := someRand()
	for range 1000 {
		key := []byte(someText(r, r.IntN(100)))
		c := api.Claim{Expiry: int64(r.Uint64()), Policy: someText(r, r.IntN(100))}
		checkMint(t, key, c, sealed(key, wordsPack(c)))
	}
}

// P5.3: a policy past the limit has no token; one at the limit has the longest, of 1420 bytes.
func TestMintLimits(t *testing.T) {
	for _, key := range keys() {
		c := api.Claim{Expiry: 5, Policy: strings.Repeat("\xff", 1024)}
		if token, e := seal.Mint(key, c); e != api.OK || len(token) != 1420 {
			t.Errorf("the longest token has %d bytes, %d", len(token), e)
		}
		c.Policy += "x"
		if token, e := seal.Mint(key, c); e != api.ErrLong || token != "" {
			t.Errorf("Mint of a policy of 1025 bytes: %.30q, %d", token, e)
		}
	}
}

// P5.3: payloads of every length about the ends, each with its right tag.
func TestOpenPayloadLengths(t *testing.T) {
	r, key := someRand(), []byte("key")
	for n := range 8 {
		unopened(t, key, sealed(key, someText(r, n)), api.ErrPayload)
	}
	for _, n := range []int{8, 9, 10, 11, 100, 1030, 1031, 1032} {
		payload := someText(r, n)
		checkMint(t, key, wordsUnpack(payload), sealed(key, payload))
	}
	for _, n := range []int{1033, 1034, 1035, 2000, 3036, 3037, 3038, 3039} { // 3039 bytes: 4052 letters, the point and 43 letters, 4096 in all
		unopened(t, key, sealed(key, someText(r, n)), api.ErrLong)
	}
	if n := len(sealed(key, strings.Repeat("x", 3039))); n != 4096 {
		t.Errorf("a token of 3039 bytes has %d bytes", n)
	}
}

// P5.3: a text of 4096 bytes is looked at, one of 4097 isn't, whatever is wrong with it beside.
func TestTokenLength(t *testing.T) {
	key := []byte("key")
	fill := func(n int, back string) string { return strings.Repeat("A", n-len(back)) + back }
	for back, want := range map[string]api.Errno{"": api.ErrToken, "..": api.ErrToken, ".A.A": api.ErrToken, "=.AA": api.ErrBase64, ".=A": api.ErrBase64, ".AA": api.ErrBase64, ".AAA": api.ErrTag, ".AAAAAAA": api.ErrTag} {
		unopened(t, key, fill(4096, back), want)
		unopened(t, key, fill(4097, back), api.ErrLong)
		unopened(t, key, fill(4098, back), api.ErrLong)
		unopened(t, key, fill(100000, back), api.ErrLong)
	}
	long := sealed(key, strings.Repeat("x", 3040))
	if len(long) < 4097 {
		t.Fatal("that text isn't too long")
	}
	unopened(t, key, long, api.ErrLong)
}

// P5.3: points: none, one, more, and nothing on one of their sides.
func TestPoints(t *testing.T) {
	key := []byte("key")
	right := sealed(key, wordsPack(api.Claim{Expiry: 1, Policy: "p"}))
	front, back, _ := strings.Cut(right, ".")
	for text, want := range map[string]api.Errno{
		".":                           api.ErrTag,
		"..":                          api.ErrToken,
		"...":                         api.ErrToken,
		front + back:                  api.ErrToken,
		front:                         api.ErrToken,
		back:                          api.ErrToken,
		front + ".":                   api.ErrTag,
		"." + back:                    api.ErrTag,
		"." + front:                   api.ErrTag,
		back + "." + front:            api.ErrTag,
		right + ".":                   api.ErrToken,
		"." + right:                   api.ErrToken,
		front + ".." + back:           api.ErrToken,
		right + "." + back:            api.ErrToken,
		front + "." + right:           api.ErrToken,
		front + "," + back:            api.ErrToken,
		front + "\xe3\x80\x82" + back: api.ErrToken,
	} {
		unopened(t, key, text, want)
	}
}

// P5.3: texts in which more than one thing is wrong: the error that comes first in the chapter's order.
func TestOrderOfErrors(t *testing.T) {
	key, other := []byte("key"), []byte("other")
	long := strings.Repeat("x", 1033)
	_, shortTag, _ := strings.Cut(sealed(other, ""), ".")
	_, longTag, _ := strings.Cut(sealed(other, long), ".")
	for text, want := range map[string]api.Errno{
		strings.Repeat(".", 4097):          api.ErrLong,  // and points, and no letters
		strings.Repeat("=", 4097):          api.ErrLong,  // and no point
		strings.Repeat("=", 4096):          api.ErrToken, // and no letters
		"=.=.=":                            api.ErrToken,
		"A.A.A":                            api.ErrToken,
		"=":                                api.ErrToken,
		"A":                                api.ErrToken,
		"AB.":                              api.ErrBase64, // and no tag, and too short
		".A":                               api.ErrBase64,
		"A.A":                              api.ErrBase64,
		"AA.AB":                            api.ErrBase64,
		"." + shortTag + "=":               api.ErrBase64,
		"=." + shortTag:                    api.ErrBase64,
		wordsEncode(long) + ".A":           api.ErrBase64,
		wordsEncode(long) + "B." + longTag: api.ErrBase64,
		"." + shortTag:                     api.ErrTag, // and too short
		wordsEncode(long) + "." + longTag:  api.ErrTag, // and too long
		wordsEncode(long) + ".":            api.ErrTag,
		"AA.":                              api.ErrTag,
		wordsEncode("1234567") + ".AA":     api.ErrTag,
	} {
		unopened(t, key, text, want)
	}
}

// P5.3: a tag that parts from the right one in one bit; one that is cut, or has more behind it; one of another payload.
func TestWrongTags(t *testing.T) {
	for _, key := range keys() {
		payload := wordsPack(api.Claim{Expiry: 1700000000000, Policy: `tenant="a"`})
		front, tag := wordsEncode(payload), wordsTag(key, payload)
		for bit := range 8 * len(tag) {
			b := []byte(tag)
			b[bit/8] ^= 1 << (bit % 8)
			unopened(t, key, front+"."+wordsEncode(string(b)), api.ErrTag)
		}
		for n := range len(tag) {
			unopened(t, key, front+"."+wordsEncode(tag[:n]), api.ErrTag)
			unopened(t, key, front+"."+wordsEncode(tag[n+1:]), api.ErrTag)
		}
		for _, more := range []string{"\x00", "\xff", tag, "\x00\x00\x00"} {
			unopened(t, key, front+"."+wordsEncode(tag+more), api.ErrTag)
			unopened(t, key, front+"."+wordsEncode(more+tag), api.ErrTag)
		}
		unopened(t, key, front+"."+wordsEncode(wordsTag(key, payload+"x")), api.ErrTag)
		unopened(t, key, front+"."+wordsEncode(wordsTag(key, front)), api.ErrTag) // of the letters, not of the bytes
	}
}

// P5.3 and P5.4: a payload that parts from the sealed one in one bit.
func TestWrongPayloads(t *testing.T) {
	key := []byte("key")
	payload := wordsPack(api.Claim{Expiry: 258, Policy: `a="b"`})
	_, back, _ := strings.Cut(sealed(key, payload), ".")
	for bit := range 8 * len(payload) {
		b := []byte(payload)
		b[bit/8] ^= 1 << (bit % 8)
		unopened(t, key, wordsEncode(string(b))+"."+back, api.ErrTag)
	}
	for n := range len(payload) {
		unopened(t, key, wordsEncode(payload[:n])+"."+back, api.ErrTag)
	}
}

// P5.3 and P5.4: a token is opened by the key that it was minted under, by no other.
func TestOtherKeys(t *testing.T) {
	all, c := keys(), api.Claim{Expiry: -5, Policy: "tenant=\"a\""}
	for i, key := range all {
		token, _ := seal.Mint(key, c)
		for j, other := range all {
			if i == j {
				checkOpen(t, other, token, c, api.OK)
			} else {
				unopened(t, other, token, api.ErrTag)
			}
		}
	}
	token, _ := seal.Mint([]byte("key"), c)
	for bit := range 24 {
		key := []byte("key")
		key[bit/8] ^= 1 << (bit % 8)
		unopened(t, key, token, api.ErrTag)
	}
}

// P5.4: every text that parts from a token in one byte, or has one more or one less, is answered as the chapter says, and never opened: a claim has one text.
func TestOneTextAClaim(t *testing.T) {
	key, c := []byte("key"), api.Claim{Expiry: 1700000000000, Policy: "a"}
	token, _ := seal.Mint(key, c)
	try := func(text string) {
		want, wantE := wordsOpen(key, text)
		checkOpen(t, key, text, want, wantE)
		if got, e := seal.Open(key, text); e == api.OK {
			if again, e := seal.Mint(key, got); again != text || e != api.OK {
				t.Errorf("%q is opened, and its claim's token is %q", text, again)
			}
			if text != token {
				t.Errorf("%q is opened", text)
			}
		}
	}
	for at := range token {
		try(token[:at] + token[at+1:])
		for v := range 256 {
			try(token[:at] + string([]byte{byte(v)}) + token[at+1:])
		}
		for _, more := range []string{"A", "=", "\n", " ", ".", "_", "\x00"} {
			try(token[:at] + more + token[at:])
		}
	}
	for _, more := range []string{"A", "=", "==", "\n", "\r\n", " ", ".", "AA", "AAAA", "\x00"} {
		try(token + more)
		try(more + token)
	}
}

// P5.3 and P5.4: texts without a rule, made of a token's pieces.
func TestOpenByTheWords(t *testing.T) {
	r, key := someRand(), []byte("key")
	pieces := func() string {
		payload := someText(r, r.IntN(14))
		switch r.IntN(9) {
		case 0:
			return "."
		case 1:
			return someLetters(r, r.IntN(45))
		case 2:
			return wordsEncode(payload)
		case 3:
			return sealed(key, payload)
		case 4:
			return sealed([]byte("other"), payload)
		case 5:
			return someText(r, r.IntN(3))
		case 6:
			return ""
		}
		front := wordsEncode(payload)
		return front + "." + wordsEncode(wordsTag(key, payload)+someText(r, r.IntN(2)))
	}
	opened := 0
	for range 30000 {
		text := ""
		for range 1 + r.IntN(3) {
			text += pieces()
		}
		want, wantE := wordsOpen(key, text)
		checkOpen(t, key, text, want, wantE)
		if wantE == api.OK {
			opened++
			checkMint(t, key, want, text)
		}
	}
	if opened < 1000 {
		t.Errorf("only %d texts were tokens", opened)
	}
}
