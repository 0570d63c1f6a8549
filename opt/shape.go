package opt

import (
	"riddle/api"
	"riddle/graph"
)

// dropUnreached takes out the blocks that can not be come to. The others keep their order, so that goals stay behind those who have them.
func (d *draft) dropUnreached() bool {
	come, _ := graph.Reach(*d)
	number := make([]int, len(*d))
	kept := (*d)[:0]
	for n, b := range *d {
		number[n] = len(kept)
		if come[n] {
			kept = append(kept, b)
		}
	}
	found := len(kept) < len(*d)
	for n := range kept {
		// A goal that an end does not have is 0, and the entry is number 0 as before.
		b := &kept[n]
		b.Yes, b.No = number[b.Yes], number[b.No]
	}
	*d = kept
	return found
}

// join puts a block behind the one that goes on at it, if no other one does.
func (d *draft) join() bool {
	ways := d.waysInto()
	found := false
	for n := range *d {
		b := &(*d)[n]
		for b.End == api.EndGo && ways[b.Yes] == 1 {
			next := &(*d)[b.Yes]
			code := append(b.Code, next.Code...)
			*b, *next = *next, giving(nil, 0)
			b.Code = code
			found = true
		}
	}
	if found {
		d.dropUnreached()
	}
	return found
}

// waysInto tells of each block how many goals it is.
func (d *draft) waysInto() []int {
	ways := make([]int, len(*d))
	for _, b := range *d {
		switch b.End {
		case api.EndTest:
			ways[b.No]++
			fallthrough
		case api.EndGo:
			ways[b.Yes]++
		}
	}
	return ways
}
