package history

import (
	"slices"

	"linear/api"
	"linear/models"
	"linear/object"
)

// slot is a member that an event of some shape must or may have, and the kinds of value it takes there.
type slot struct {
	name  string
	must  bool
	kinds []int
}

func callShape() []slot {
	return []slot{
		{"call", true, []int{api.Int}},
		{"by", true, []int{api.Int}},
		{"op", true, []int{object.String}},
		{"key", false, []int{object.String}},
		{"arg", false, []int{api.Int}},
		{"exp", false, []int{api.Int}},
	}
}

func returnShape() []slot {
	return []slot{
		{"ret", true, []int{api.Int}},
		{"val", true, []int{api.Null, api.Int, api.Bool}},
	}
}

// byName gathers members in a map; it answers false, if a name is there twice.
func byName(list []object.Member) (map[string]object.Value, bool) {
	members := map[string]object.Value{}
	for _, m := range list {
		if _, twice := members[m.Name]; twice {
			return nil, false
		}
		members[m.Name] = m.Value
	}
	return members, true
}

// fits says whether the members are those of the shape, and no others.
func fits(members map[string]object.Value, shape []slot) bool {
	found := 0
	for _, s := range shape {
		v, there := members[s.name]
		if !there {
			if s.must {
				return false
			}
			continue
		}
		if !slices.Contains(s.kinds, v.Kind) {
			return false
		}
		found++
	}
	// Each slot has counted a member of its own: what is over has a name that no slot has.
	return found == len(members)
}

// having tells which of the members that only some calls have are there.
func having(members map[string]object.Value) models.Members {
	var have models.Members
	if _, there := members["key"]; there {
		have |= models.Key
	}
	if _, there := members["arg"]; there {
		have |= models.Arg
	}
	if _, there := members["exp"]; there {
		have |= models.Exp
	}
	return have
}
