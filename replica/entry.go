package replica

import "tidings/api"

// classes is how many classes there are: one for each bit of a filter.
const classes = 8

// option sets some of an entry.
type option func(*api.Entry)

// entry makes an entry that has what the options set, and nothing else.
func entry(options ...option) api.Entry {
	var e api.Entry
	for _, set := range options {
		set(&e)
	}
	return e
}

// ofItem sets of which item it is.
func ofItem(id uint8) option {
	return func(e *api.Entry) { e.ID = id }
}

// ofVersion sets the version.
func ofVersion(v api.Ver) option {
	return func(e *api.Entry) { e.Ver = v }
}

// ofKind sets the kind.
func ofKind(kind int) option {
	return func(e *api.Entry) { e.Kind = kind }
}

// ofValue makes it Real, of a value and its class.
func ofValue(value uint32) option {
	return func(e *api.Entry) {
		e.Kind, e.Class, e.Value = api.Real, uint8(value%classes), value
	}
}
