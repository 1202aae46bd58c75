package check_test

import (
	"slices"
	"testing"

	"weir/api"
)

// P14.2 and P1, rule 2: of two and more faults in one node the first by the order of the rules is told.
func TestOrderOfRules(t *testing.T) {
	for _, c := range []struct {
		text string
		e    api.Errno
	}{
		// Selectors.
		{`up{__name__="x",a=~"("} @ inf`, api.ErrNameTwo},
		{`up{a=~"(",__name__="x"} @ inf`, api.ErrNameTwo},
		{`up{a=~"("} @ inf`, api.ErrRegex},
		{`{a="",b!~"("} @ inf`, api.ErrRegex},
		{`{b!~"(",a=""}`, api.ErrRegex},
		{`{__name__="x",a=~"("}`, api.ErrRegex},
		{`{a=""} @ inf`, api.ErrBare},
		{`up{a=""} @ inf`, api.ErrTime},
		// Ranges: the selector is a kid.
		{`up{__name__="x"}[0s]`, api.ErrNameTwo},
		{`up{a=~"("}[0s]`, api.ErrRegex},
		{`{}[0s]`, api.ErrBare},
		{`up[0s] @ inf`, api.ErrTime},
		{`up[0s] offset 5m @ 1`, api.ErrWidth},
		// Subqueries.
		{`1[0s:0s] @ inf`, api.ErrType},
		{`up[0s:0s] @ inf`, api.ErrWidth},
		{`up[0s:] @ inf`, api.ErrWidth},
		{`up[5m:0s] @ inf`, api.ErrWidth},
		{`up[5m:1m] @ inf`, api.ErrTime},
		// Operators.
		{`"x" + bool on (a) group_left (a) 1`, api.ErrType},
		{`1 and bool "x"`, api.ErrType},
		{`up[5m] == up`, api.ErrType},
		{`1 and bool 2`, api.ErrBool},
		{`1 or bool up`, api.ErrBool},
		{`1 == on (a) 2`, api.ErrBool},
		{`1 + bool on (a) up`, api.ErrBool},
		{`up and bool on (a) group_left () up`, api.ErrBool},
		{`up + bool on (a) group_left (a) up`, api.ErrBool},
		{`1 and on (a) group_left () up`, api.ErrType},
		{`up unless on (a) group_left (a) 1`, api.ErrType},
		{`1 == bool on (a) up`, api.ErrGrouping},
		// Calls.
		{`nothing(1, 2, 3)`, api.ErrFunction},
		{`rate(1, 2)`, api.ErrArity},
		{`clamp(1)`, api.ErrArity},
		{`label_replace(up, "1-", "", "b-")`, api.ErrArity},
		{`label_replace(up, "1-", "", "b-", 1)`, api.ErrType},
		{`label_replace(1, "1-", "", "b-", "(")`, api.ErrType},
		{`label_replace(up, "1-", "", "b", "(")`, api.ErrGrouping},
		{`label_replace(up, "a", "", "b-", "(")`, api.ErrGrouping},
		{`label_join(up, "1-")`, api.ErrArity},
		{`label_join(up, "1-", 1)`, api.ErrType},
		{`label_join(up, "a", "", "b-", 1)`, api.ErrType},
		{`label_join(up, "a", "", 1, "b-")`, api.ErrType},
		// Aggregations.
		{`sum(1, 1)`, api.ErrType},
		{`topk(1)`, api.ErrType},
		{`topk("x", 1)`, api.ErrType},
		{`sum("x", up)`, api.ErrArity},
		{`count_values("a-b", 1)`, api.ErrType},
		{`count_values("a-b")`, api.ErrType},
		{`count_values(up, up)`, api.ErrType},
	} {
		answers(t, c.text, 0, c.e)
	}
}

// broken: a tree for each error that a node may have, and for some more than one.
func broken() []string {
	return []string{"-'x'", "{}", `{a=~"("}`, `up{__name__="x"}`, "up @ inf", "up[0s]", "up[5m:0s]", "1[5m:]", "1 == 2", "1 and 2", "1 + on () up", "rate(up)", "rate()", "nothing()", `label_replace(up, "a", "", "b", "(")`, `count_values("", up)`, "sum(1, up)", "sum(1)"}
}

// P14.2 and P1, rule 2: of kids that have faults the first one's is told, and ahead of what is wrong with the node itself.
func TestOrderOfNodes(t *testing.T) {
	list := broken()
	var errors []api.Errno
	for _, s := range list {
		_, e := wantedOf(rowsOf(t, s))
		if e == api.OK {
			t.Fatalf("%s has no fault", s)
		}
		errors = append(errors, e)
		answers(t, s, 0, e)
	}
	if n := len(slices.Compact(slices.Sorted(slices.Values(errors)))); n != 10 {
		t.Errorf("%d errors", n)
	}
	for i, one := range list {
		// Over one kid: whatever else is wrong.
		for _, text := range []string{"-(" + one + ")", "(" + one + ")[0s:0s] @ inf", "nothing(" + one + ")", "rate(" + one + ", 1, 2)", "abs(" + one + ")", "sum(" + one + ")", "topk(" + one + ")", "-(-(" + one + "))", "abs(1, (" + one + "), 2)"} {
			answers(t, text, 0, errors[i])
		}
		for _, other := range append(list, "1", "'x'", "up", "up[5m]") {
			two := "(" + one + "), (" + other + ")"
			for _, text := range []string{"(" + one + ") + (" + other + ")", "(" + one + ") and bool on (a) group_left (a) (" + other + ")", "nothing(" + two + ")", "rate(" + two + ")", "sum(" + two + ")", "topk(" + two + ")", "count_values(" + two + ")", "label_join(" + two + ")"} {
				answers(t, text, 0, errors[i])
			}
		}
		for _, fine := range []string{"1", "'x'", "up", "up[5m]"} {
			two := fine + ", (" + one + ")"
			for _, text := range []string{fine + " + (" + one + ")", fine + " and bool on (a) group_left (a) (" + one + ")", "nothing(" + two + ")", "rate(" + two + ")", "sum(" + two + ")", "topk(" + two + ")", "label_join(" + two + ")"} {
				answers(t, text, 0, errors[i])
			}
		}
	}
}

// P14.2: a fault deep in the first kid stands ahead of one that is high in the second.
func TestOrderOfDepths(t *testing.T) {
	answers(t, "sum(abs(-(-{}))) + 'x'", 0, api.ErrBare)
	answers(t, "'x' + sum(abs(-(-{})))", 0, api.ErrBare)
	answers(t, "nothing() + sum(abs(-(-{})))", 0, api.ErrFunction)
	answers(t, "sum(abs(-(-{}))) + nothing()", 0, api.ErrBare)
	answers(t, "clamp(up[0s], 1 == 2, -'x')", 0, api.ErrWidth)
	answers(t, "clamp(up, 1 == 2, -'x')", 0, api.ErrBool)
	answers(t, "clamp(up, 1, -'x')", 0, api.ErrType)
	answers(t, "topk(1 == 2, {})", 0, api.ErrBool)
	answers(t, "topk(1, {})", 0, api.ErrBare)
	answers(t, "sum(rate(up) + up[0s]) / {}", 0, api.ErrType)
}
