package check_test

import (
	"maps"
	"reflect"
	"slices"
	"strings"
	"testing"

	"weir/api"
	"weir/check"
)

// sigOf: the signature of a function of the table.
func sigOf(name string, k known) api.Sig {
	sig := api.Sig{Name: name, Result: strings.Index(letters, k.result)}
	for _, c := range k.args {
		switch c {
		case '?':
			sig.Least--
		case '*':
			sig.Least--
			sig.More = true
		default:
			sig.Args = append(sig.Args, strings.IndexRune(letters, c))
			sig.Least++
		}
	}
	return sig
}

// sameSig: are two signatures the same? An empty list is the same as nil.
func sameSig(a, b api.Sig) bool {
	same := slices.Equal(a.Args, b.Args)
	a.Args, b.Args = nil, nil
	return same && reflect.DeepEqual(a, b)
}

// P14.1: all names, rising byte by byte.
func TestFuncs(t *testing.T) {
	list := check.Funcs()
	if want := slices.Sorted(maps.Keys(functions())); !slices.Equal(list, want) || len(list) != 58 {
		t.Errorf("%d functions: %q; want %q", len(list), list, want)
	}
	for i := 1; i < len(list); i++ {
		if list[i-1] >= list[i] {
			t.Errorf("%q stands ahead of %q", list[i-1], list[i])
		}
	}
}

// P14.1: each function's signature, whole.
func TestFunc(t *testing.T) {
	for name, k := range functions() {
		if sig, ok := check.Func(name); !ok || !sameSig(sig, sigOf(name, k)) {
			t.Errorf("Func(%q) = %+v, %v; want %+v", name, sig, ok, sigOf(name, k))
		}
	}
	const scalar, text, vector, matrix = api.ValScalar, api.ValString, api.ValVector, api.ValMatrix
	for _, want := range []api.Sig{
		{Name: "round", Args: []int{vector, scalar}, Least: 1, Result: vector},
		{Name: "hour", Args: []int{vector}, Least: 0, Result: vector},
		{Name: "label_join", Args: []int{vector, text, text, text}, Least: 3, More: true, Result: vector},
		{Name: "label_replace", Args: []int{vector, text, text, text, text}, Least: 5, Result: vector},
		{Name: "pi", Result: scalar},
		{Name: "time", Result: scalar},
		{Name: "scalar", Args: []int{vector}, Least: 1, Result: scalar},
		{Name: "vector", Args: []int{scalar}, Least: 1, Result: vector},
		{Name: "rate", Args: []int{matrix}, Least: 1, Result: vector},
		{Name: "quantile_over_time", Args: []int{scalar, matrix}, Least: 2, Result: vector},
		{Name: "double_exponential_smoothing", Args: []int{matrix, scalar, scalar}, Least: 3, Result: vector},
	} {
		if sig, ok := check.Func(want.Name); !ok || !sameSig(sig, want) {
			t.Errorf("Func(%q) = %+v, %v; want %+v", want.Name, sig, ok, want)
		}
	}
}

// nearly: texts that are nearly a name: a letter in its other case, one less, one more, two the other way round.
func nearly(name string) []string {
	list := []string{"", strings.ToUpper(name), " " + name, name + " ", name + "_", "_" + name, name + name, name + "()", name + "\x00", strings.ToUpper(name[:1]) + name[1:]}
	for i := range len(name) {
		list = append(list, name[:i]+strings.ToUpper(name[i:i+1])+name[i+1:], name[:i]+name[i+1:], name[:i]+"x"+name[i:], name[:i]+name[i:i+1]+name[i:])
		if i > 0 {
			list = append(list, name[:i-1]+name[i:i+1]+name[i-1:i]+name[i+1:])
		}
	}
	return list
}

// P14.1 and P1, rule 3: a name that isn't one to the letter has no signature.
func TestFuncUnknown(t *testing.T) {
	list := append(aggregations(), "", "nothing", "by", "or", "inf", "\xff", "é", "raté", strings.Repeat("rate", 1<<20), "holt_winters", "count", "sum")
	for name := range functions() {
		list = append(list, nearly(name)...)
	}
	asked := 0
	for _, name := range list {
		if _, there := functions()[name]; there {
			continue
		}
		asked++
		if sig, ok := check.Func(name); ok || !sameSig(sig, api.Sig{}) {
			t.Errorf("Func(%.60q) = %+v, %v", name, sig, ok)
		}
	}
	if asked < 2500 {
		t.Errorf("%d names", asked)
	}
}

// P14.1: the aggregations' parameters.
func TestAggr(t *testing.T) {
	for op, want := range map[string]int{"topk": api.ValScalar, "bottomk": api.ValScalar, "quantile": api.ValScalar, "count_values": api.ValString,
		"avg": 0, "count": 0, "group": 0, "max": 0, "min": 0, "stddev": 0, "stdvar": 0, "sum": 0} {
		if kind, ok := check.Aggr(op); kind != want || !ok {
			t.Errorf("Aggr(%q) = %d, %v", op, kind, ok)
		}
	}
	list := append(slices.Collect(maps.Keys(functions())), "", "nothing", "by", "or", "SUM", "Topk", "Count_values", "\xff", "é", strings.Repeat("sum", 1<<20))
	for _, op := range aggregations() {
		list = append(list, nearly(op)...)
	}
	for _, op := range list {
		if _, there := params()[op]; there {
			continue
		}
		if kind, ok := check.Aggr(op); kind != 0 || ok {
			t.Errorf("Aggr(%.60q) = %d, %v", op, kind, ok)
		}
	}
}

// P14.5 and P1, rule 5: signatures that were answered, changed and lengthened, change no other that was answered and none that is asked for later.
func TestSigsAreTheCallersOwn(t *testing.T) {
	first, second := map[string]api.Sig{}, map[string]api.Sig{}
	for name := range functions() {
		first[name], _ = check.Func(name)
		second[name], _ = check.Func(name)
	}
	for _, sig := range first {
		longer := append(sig.Args, 7, 8, 9)
		clear(sig.Args[:cap(sig.Args)])
		clear(longer[:cap(longer)])
	}
	for name, k := range functions() {
		again, ok := check.Func(name)
		if want := sigOf(name, k); !ok || !sameSig(again, want) || !sameSig(second[name], want) {
			t.Errorf("Func(%q) has become %+v, %v, and what it had answered %+v", name, again, ok, second[name])
		}
	}
	answers(t, `rate(up[5m]) + label_join(round(up, 5), "a", "-", "b", "c", "d")`, api.ValVector, api.OK)
}

// P14.5 and P1, rule 5: likewise the list of the names.
func TestNamesAreTheCallersOwn(t *testing.T) {
	want := slices.Sorted(maps.Keys(functions()))
	first, second := check.Funcs(), check.Funcs()
	longer := append(first, "zz", "zzz")
	clear(first[:cap(first)])
	clear(longer[:cap(longer)])
	if again := check.Funcs(); !slices.Equal(again, want) || !slices.Equal(second, want) {
		t.Errorf("Funcs has become %q, and what it had answered %q", again, second)
	}
	answers(t, "abs(up)", api.ValVector, api.OK)
}
