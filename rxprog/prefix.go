package rxprog

import (
	"strings"

	"weir/api"
	"weir/utf"
)

// A front is a text with which all begins that a node matches; exact: beside the places that it asks for, the node is that text and no more.
type front struct {
	text  string
	exact bool
}

// frontOf: the front of a valid node with a program.
func frontOf(x api.Rx) front {
	switch x.Kind {
	case api.RxLit:
		text, e := utf.Text([]rune{x.R})
		return front{text, e == api.OK}
	case api.RxClass:
		return front{}
	case api.RxCat:
		return rowFront(x.Kids)
	case api.RxAlt:
		return commonFront(x.Kids)
	case api.RxRepeat:
		return repeatFront(x)
	case api.RxGroup:
		return frontOf(x.Kids[0])
	}
	return front{exact: true} // RxEmpty and the places
}

// rowFront: that of nodes one behind the other, as far as it is known what each begins behind.
func rowFront(kids []api.Rx) front {
	var b strings.Builder
	for _, kid := range kids {
		f := frontOf(kid)
		b.WriteString(f.text)
		if !f.exact {
			return front{b.String(), false}
		}
	}
	return front{b.String(), true}
}

// commonFront: what the fronts of all nodes begin with.
func commonFront(kids []api.Rx) front {
	out := frontOf(kids[0])
	for _, kid := range kids[1:] {
		f := frontOf(kid)
		out.exact = out.exact && f.exact && f.text == out.text
		out.text = commonText(out.text, f.text)
	}
	return out
}

// commonText: the longest text with which both begin; the forms of two runes may begin with the same bytes, and those are no text.
func commonText(a, b string) string {
	for at, r := range utf.All(a) {
		if other, _ := utf.Next(b, at); other != r {
			return a[:at]
		}
	}
	return a
}

func repeatFront(x api.Rx) front {
	if x.Max == 0 {
		return front{exact: true}
	}
	kid := frontOf(x.Kids[0])
	isNothing := kid.exact && kid.text == "" // the kid asks for places at most, and any number of times is as good as once
	if x.Min == 0 {
		return front{exact: isNothing}
	}
	if !kid.exact {
		return kid
	}
	return front{strings.Repeat(kid.text, x.Min), isNothing || x.Max == x.Min}
}
