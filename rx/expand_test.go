package rx_test

import (
	"math"
	"regexp"
	"strings"
	"testing"

	"weir/rx"
)

func checkExpand(t *testing.T, r *rx.Regex, template, s string, groups []int, want string) {
	t.Helper()
	if by := expandByWords(r, template, s, groups); by != want {
		t.Fatalf("%.100q, %.100q, %v: by the words %.100q", template, s, groups, by)
	}
	if got := r.Expand(template, s, groups); got != want {
		t.Errorf("Expand(%.100q, %.100q, %v) = %.100q, not %.100q", template, s, groups, got, want)
	}
}

// P10.3: the chapter's examples.
func TestExpandExamples(t *testing.T) {
	r := compiled(t, "(?P<x>.)(.)")
	checkExpand(t, r, "$2${x}-$x1-$$-$", "ab", []int{0, 2, 0, 1, 1, 2}, "ba--$-$")
	checkExpand(t, r, "$2${x}-$x1-$$-$", "ab", []int{0, 2, 0, 9}, "--$-$")
}

// P10.3: where a name stands in a template, and where a $ is itself.
func TestExpandTemplates(t *testing.T) {
	r := compiled(t, "(?P<x>.)(.)(?P<y_0Z>.)")
	groups := []int{0, 3, 0, 1, 1, 2, 2, 3}
	for _, c := range []struct{ template, want string }{
		{"", ""}, {"plain", "plain"}, {"é日\x00\n", "é日\x00\n"}, {"\xff\xc3", "\xff\xc3"},
		{"$$", "$"}, {"$$$$", "$$"}, {"$$$", "$$"}, {"$", "$"}, {"a$", "a$"}, {"$$1", "$1"}, {"$$$1", "$a"}, {"$${x}", "${x}"}, {"$$$$x", "$$x"}, {"x$$y", "x$y"},
		{"$1", "a"}, {"${1}", "a"}, {"$0", "abc"}, {"${0}", "abc"}, {"$x", "a"}, {"${x}", "a"}, {"$y_0Z", "c"}, {"${y_0Z}!", "c!"}, {"$1$2$3", "abc"}, {"$3-$2-$1", "c-b-a"}, {"<$1>", "<a>"}, {"$1 $2", "a b"},
		{"$1x", ""}, {"${1}x", "ax"}, {"$x1", ""}, {"${x}1", "a1"}, {"$x_", ""}, {"$x-", "a-"}, {"$xé", "aé"}, {"$x\xff", "a\xff"}, {"$x$x", "aa"}, {"$x{", "a{"}, {"$x}", "a}"}, {"$X", ""}, {"$nobody", ""}, {"$_", ""}, {"${_}", ""},
		{"${", "${"}, {"${}", "${}"}, {"${x", "${x"}, {"${x$1", "${xa"}, {"${x y}", "${x y}"}, {"${x-}", "${x-}"}, {"${-x}", "${-x}"}, {"${ x}", "${ x}"}, {"${é}", "${é}"}, {"${{x}}", "${{x}}"}, {"${$x}", "${a}"}, {"${$$}", "${$}"}, {"${${x}}", "${a}"}, {"${x}}", "a}"}, {"${x}{x}", "a{x}"}, {"a${", "a${"}, {"${x${x}", "${xa"}, {"{$x}", "{a}"},
		{"$-", "$-"}, {"$ x", "$ x"}, {"$é", "$é"}, {"$}", "$}"}, {"$/", "$/"}, {"$:", "$:"}, {"$@", "$@"}, {"$[", "$["}, {"$^", "$^"}, {"$`", "$`"}, {"$\xff", "$\xff"}, {"$\n1", "$\n1"}, {"$\x00", "$\x00"}, {`\$1`, `\a`}, {"$&", "$&"}, {"$<x>", "$<x>"},
		{"$9", ""}, {"$A", ""}, {"$Z", ""}, {"$a", ""}, {"$z", ""}, {"$4", ""}, {"$99999999999999999999", ""},
	} {
		checkExpand(t, r, c.template, "abc", groups, c.want)
		checkExpand(t, r, "-"+c.template+"-", "abc", groups, expandByWords(r, "-"+c.template+"-", "abc", groups))
	}
}

// P10.3: numbers, and names that look like numbers.
func TestExpandNumbers(t *testing.T) {
	r := compiled(t, "(?P<2>.)(?P<01>.)(?P<2147483648>.)(?P<2147483647>.)(?P<00>.)(?P<1a>.)(?P<9>.)(?P<99999999999999999999>.)(?P<a1>.)(?P<0>.)")
	groups := []int{0, 10}
	for i := range 10 {
		groups = append(groups, i, i+1)
	}
	for _, c := range []struct{ name, want string }{
		{"0", "abcdefghij"}, {"1", "a"}, {"2", "b"}, {"9", "i"}, {"10", "j"}, {"11", ""}, {"01", "b"}, {"00", "e"}, {"000", ""}, {"001", ""}, {"02", ""}, {"09", ""}, {"010", ""}, {"1a", "f"}, {"a1", "i"}, {"1_", ""}, {"_1", ""},
		{"2147483648", "c"}, {"2147483647", ""}, {"2147483646", ""}, {"2147483649", ""}, {"02147483648", ""}, {"4294967296", ""}, {"4294967297", ""}, {"18446744073709551616", ""}, {"18446744073709551617", ""}, {"99999999999999999999", "h"}, {"9223372036854775807", ""}, {"9223372036854775808", ""}, {strings.Repeat("9", 5000), ""}, {strings.Repeat("0", 5000), ""},
	} {
		checkExpand(t, r, "$"+c.name, "abcdefghij", groups, c.want)
		checkExpand(t, r, "${"+c.name+"}x", "abcdefghij", groups, c.want+"x")
	}
	// A number's group counts by the list alone, however many groups the pattern has.
	none := compiled(t, "")
	checkExpand(t, none, "$0,$1,$4,$5", "abcde", groups, ",a,d,e")
	checkExpand(t, none, "$0,$1,$5", "abcde", []int{1, 4, 0, 2}, "bcd,ab,")
}

// P10.3: groups that are short, below 0, turned round or beyond the text.
func TestExpandGroups(t *testing.T) {
	r := compiled(t, "(?P<x>.)(?P<y>.)")
	const most, least = math.MaxInt, math.MinInt
	for _, c := range []struct {
		s      string
		groups []int
		want   string // of $0|$1|$y
	}{
		{"abc", nil, "||"}, {"abc", []int{}, "||"}, {"abc", []int{0}, "||"}, {"abc", []int{0, 3}, "abc||"}, {"abc", []int{0, 3, 1}, "abc||"}, {"abc", []int{0, 3, 1, 2}, "abc|b|"}, {"abc", []int{0, 3, 1, 2, 2}, "abc|b|"}, {"abc", []int{0, 3, 1, 2, 2, 3}, "abc|b|c"}, {"abc", []int{0, 3, 1, 2, 2, 3, 0}, "abc|b|c"},
		{"abc", []int{-1, -1, -1, 2, 2, -1}, "||"}, {"abc", []int{2, 1, 3, 0, 1, 0}, "||"}, {"abc", []int{0, 4, 3, 4, 4, 4}, "||"}, {"abc", []int{3, 3, 0, 0, 1, 1}, "||"}, {"abc", []int{4, 3, 4, 9, 5, 5}, "||"},
		{"abc", []int{least, most, 0, most, least, 3}, "||"}, {"abc", []int{most, least, most, most, least, least}, "||"}, {"abc", []int{1, 3, 0, 3, 2, 3}, "bc|abc|c"},
		{"", []int{0, 0, 0, 0, 0, 0}, "||"}, {"", []int{0, 1, 0, 1, 1, 1}, "||"}, {"é日", []int{0, 2, 2, 5, 1, 2}, "é|日|\xa9"}, {"\xff\x00", []int{0, 1, 1, 2, 0, 2}, "\xff|\x00|\xff\x00"}, {"$1$$", []int{0, 4, 0, 2, 2, 4}, "$1$$|$1|$$"},
	} {
		checkExpand(t, r, "$0|$1|$y", c.s, c.groups, c.want)
	}
}

// P10.3: templates, texts and lists made at random.
func TestExpandByWords(t *testing.T) {
	t.Parallel()
	r := someRand()
	regexes := []*rx.Regex{compiled(t, ""), compiled(t, "(?P<x>.)(.)"), compiled(t, "(?P<1>.)(?P<01>.)(?P<a>.)"), compiled(t, "(.)(?P<a1>.)(?P<_>.)(?P<x>.)")}
	pieces := []string{"$", "$", "$", "{", "}", "x", "a", "1", "0", "2", "_", "-", "é", "\xff", "${", "$1", "$x", "${1}", "${a}", "$$", "2147483647", "2147483648"}
	texts := []string{"", "a", "abcd", "é日", "\xff\xfe", "$x$1"}
	told := 0
	for range 60000 {
		template := ""
		for range r.IntN(9) {
			template += pieces[r.IntN(len(pieces))]
		}
		s := texts[r.IntN(len(texts))]
		var groups []int
		for range r.IntN(11) {
			groups = append(groups, r.IntN(8)-1)
		}
		regex := regexes[r.IntN(len(regexes))]
		want := expandByWords(regex, template, s, groups)
		if got := regex.Expand(template, s, groups); got != want {
			t.Fatalf("%q: Expand(%q, %q, %v) = %q, not %q", regex.Pattern(), template, s, groups, got, want)
		}
		if want != template && want != "" {
			told++
		}
	}
	if told < 20000 {
		t.Errorf("%d templates are changed", told)
	}
}

// P10.3: the library fills ordinary templates in the same way.
func TestExpandByLibrary(t *testing.T) {
	pattern := "(?P<key>[a-z]+)=(?P<value>[0-9]*)(;.*)?"
	library := regexp.MustCompile("^(?:" + pattern + ")$")
	r := compiled(t, pattern)
	for _, s := range []string{"a=1", "key=", "key=12;x=y", "é=1", "", "a=1;", "A=1"} {
		groups := library.FindStringSubmatchIndex(s)
		for _, template := range []string{"$key", "${key}_$value", "$1$2$3", "$0$$", "$value: ${key}!", "$key_x", "none", "", "$3", "$4", "${3}${value}"} {
			got, ok := r.Replace(s, template)
			want := ""
			if groups != nil {
				want = string(library.ExpandString(nil, template, s, groups))
			}
			if got != want || ok != (groups != nil) {
				t.Errorf("Replace(%q, %q) = %q, %v, the library says %q", s, template, got, ok, want)
			}
		}
	}
}

// P10.3: Replace is Expand by the text's own groups, or nothing.
func TestReplace(t *testing.T) {
	for _, c := range []struct {
		pattern, s, template, want string
		ok                         bool
	}{
		{"(.*)-(.*)", "a-b", "$2-$1", "b-a", true}, {"(.*)-(.*)", "a-b-c", "$1|$2", "a-b|c", true}, {"(.*?)-(.*)", "a-b-c", "$1|$2", "a|b-c", true}, {"(.*)-(.*)", "ab", "$2-$1", "", false}, {"(.*)-(.*)", "a-b\n", "x", "", false}, {"(.*)-(.*)", "a-\xff", "x", "", false},
		{"", "", "x", "x", true}, {"", "", "", "", true}, {"", "a", "", "", false}, {"a|(b)", "a", "<$1>", "<>", true}, {"a|(b)", "b", "<$1>", "<b>", true}, {"(?P<host>[^:]+)(?::(?P<port>\\d+))?", "h:80", "$port@$host", "80@h", true}, {"(?P<host>[^:]+)(?::(?P<port>\\d+))?", "h", "$port@$host", "@h", true},
		{"(é)(日)", "é日", "$2$1$0", "日éé日", true}, {".*", "x", "$$", "$", true}, {".*", "$0", "$0$0", "$0$0", true}, {"(?:(a)|b)*", "ab", "$1", "a", true},
	} {
		r := compiled(t, c.pattern)
		got, ok := r.Replace(c.s, c.template)
		if got != c.want || ok != c.ok {
			t.Errorf("%q: Replace(%q, %q) = %q, %v", c.pattern, c.s, c.template, got, ok)
		}
		if groups := r.Groups(c.s); ok && r.Expand(c.template, c.s, groups) != got {
			t.Errorf("%q: Expand(%q, %q, %v) isn't Replace", c.pattern, c.template, c.s, groups)
		}
	}
}
