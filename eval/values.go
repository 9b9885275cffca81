package eval

import "levy/api"

func fault(n int64) api.Value { return api.Value{Kind: api.Fault, Num: n} }

func isFault(x api.Value) bool { return x.Kind == api.Fault }

func isBlank(x api.Value) bool { return x.Kind == api.Blank }

func flag(b bool) api.Value {
	if b {
		return api.Value{Kind: api.Flag, Num: 1}
	}
	return api.Value{Kind: api.Flag}
}

// truth tells the flag that a value is, or the fault that it makes where a flag is needed.
func truth(x api.Value) api.Value {
	switch x.Kind {
	case api.Flag, api.Fault:
		return x
	case api.Blank:
		return fault(api.Needed)
	}
	return fault(api.Wrong)
}

// present tells a value, or the fault that it makes where a value is needed.
func present(x api.Value) api.Value {
	if isBlank(x) {
		return fault(api.Needed)
	}
	return x
}
