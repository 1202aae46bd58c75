package check

import (
	"slices"

	"weir/api"
)

// functions: the signature of each function, by its name. It is made anew for everyone who asks, so that what is answered of it is nobody else's.
func functions() map[string]api.Sig {
	sigs := map[string]api.Sig{}
	for _, f := range families() {
		for _, name := range f.names {
			sig := f.sig
			sig.Name, sig.Args = name, slices.Clone(f.sig.Args)
			sigs[name] = sig
		}
	}
	return sigs
}

// A family is functions that have one signature but for their names.
type family struct {
	sig   api.Sig
	names []string
}

// families: all functions, as the chapter's tables group them.
func families() []family {
	const scalar, text, vector, matrix = api.ValScalar, api.ValString, api.ValVector, api.ValMatrix
	return []family{
		all(vector, []int{matrix},
			"avg_over_time", "count_over_time", "mad_over_time", "max_over_time", "min_over_time", "present_over_time", "stddev_over_time", "stdvar_over_time", "sum_over_time",
			"first_over_time", "last_over_time",
			"changes", "delta", "deriv", "idelta", "increase", "irate", "rate", "resets",
			"absent_over_time"),
		all(vector, []int{scalar, matrix}, "quantile_over_time"),
		all(vector, []int{matrix, scalar}, "beat_over_time", "predict_linear"),
		all(vector, []int{matrix, scalar, scalar}, "double_exponential_smoothing"),
		all(vector, []int{vector},
			"abs", "ceil", "deg", "exp", "floor", "ln", "log10", "log2", "rad", "sgn", "sqrt",
			"absent", "sort", "sort_desc", "timestamp"),
		all(vector, []int{vector, scalar}, "clamp_max", "clamp_min"),
		all(vector, []int{vector, scalar, scalar}, "clamp"),
		all(vector, []int{scalar, vector}, "histogram_quantile"),
		all(vector, []int{vector, text, text, text, text}, "label_replace"),
		all(vector, []int{scalar}, "vector"),
		all(scalar, []int{vector}, "scalar"),
		all(scalar, nil, "pi", "time"),
		{api.Sig{Args: []int{vector, scalar}, Least: 1, Result: vector}, []string{"round"}},
		{api.Sig{Args: []int{vector}, Least: 0, Result: vector},
			[]string{"day_of_month", "day_of_week", "day_of_year", "days_in_month", "hour", "minute", "month", "year"}},
		{api.Sig{Args: []int{vector, text, text, text}, Least: 3, More: true, Result: vector}, []string{"label_join"}},
	}
}

// all: the family of functions that must have all of their arguments.
func all(result int, args []int, names ...string) family {
	return family{api.Sig{Args: args, Least: len(args), Result: result}, names}
}
