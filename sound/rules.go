package sound

import (
	"tidemark/api"
	"tidemark/disk"
	"tidemark/look"
	"tidemark/master"
)

// mostNumber is the greatest turn, base and next base that a restart takes: so far from MaxLsn that no run comes there.
const mostNumber = api.MaxLsn - 1<<40

// rule is one that an image may break; whether it holds may lean on what the rules ahead of it have left in the view.
type rule struct {
	name  string
	holds func(*view) bool
}

// rules gives them in the order in which a restart looks at them: one is asked only where all ahead of it hold.
func rules() []rule {
	return []rule{
		{"shape", func(v *view) bool {
			d, e := disk.Load(v.shape, v.image)
			v.disk = d
			return e == api.OK
		}},
		{"master", func(v *view) bool {
			state, isNamed, _ := master.Newest(v.disk) // a disk that was just loaded doesn't die
			v.state = state
			return isNamed || v.isNew()
		}},
		{"numbers", func(v *view) bool {
			return v.state.Turn <= mostNumber && v.state.Base <= mostNumber
		}},
		{"pages", func(v *view) bool {
			return v.findLsns()
		}},
		{"log", func(v *view) bool {
			found, e := look.Analyse(v.image.Log, v.state.Base, v.state.Check, v.shape.Pages, v.shape.Slots)
			v.found = found
			return e == api.OK
		}},
		{"ahead", func(v *view) bool {
			return v.greatest < v.state.Base+1+v.found.Bytes
		}},
		{"room", func(v *view) bool {
			n := v.bytesAtEnd()
			return n <= v.shape.Log && v.state.Base+n <= mostNumber
		}},
	}
}
