package plain

import (
	"cmp"
	"slices"

	"tidemark/api"
)

// values are those that keys have.
type values map[int]uint64

func (v values) copied() values {
	all := make(values, len(v))
	for key, value := range v {
		all[key] = value
	}
	return all
}

func (v values) lay(c Change) {
	if c.Gone {
		delete(v, c.Key)
	} else {
		v[c.Key] = c.Value
	}
}

// slot gives the bytes of a key's slot.
func (v values) slot(key int) slot {
	value, there := v[key]
	return Change{Key: key, Value: value, Gone: !there}.slot()
}

// entries tells all keys and their values, keys rising.
func entries(parts ...values) []api.Entry {
	var all []api.Entry
	for _, v := range parts {
		for key, value := range v {
			all = append(all, api.Entry{Key: key, Value: value})
		}
	}
	slices.SortFunc(all, func(a, b api.Entry) int { return cmp.Compare(a.Key, b.Key) })
	return all
}

// slot is the bytes of a slot.
type slot [api.SlotBytes]byte

// slot gives the bytes of the slot that the change leaves.
func (c Change) slot() slot {
	var b slot
	if c.Gone {
		return b
	}
	b[0] = 1
	for i := range 4 {
		b[4+i] = byte(c.Key >> (8 * i))
	}
	for i := range 8 {
		b[8+i] = byte(c.Value >> (8 * i))
	}
	return b
}

// length tells of how many bytes the change of a slot is, from the first that parts to the last.
func length(a, b slot) int {
	first, behind := 0, 0
	for i := len(a) - 1; i >= 0; i-- {
		if a[i] != b[i] {
			first = i
			behind = max(behind, i+1)
		}
	}
	return behind - first
}
