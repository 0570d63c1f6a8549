package compile

import (
	"strconv"

	"riddle/api"
)

// number is an Errno as an error.
type number api.Errno

func (n number) Error() string {
	return "error " + strconv.Itoa(int(n))
}

// fault wraps the number of what is wrong, and tells the place in the source at which it is.
type fault struct {
	why   number
	place int
}

func (f fault) Error() string {
	return f.why.Error() + " at " + strconv.Itoa(f.place)
}

func (f fault) Unwrap() error {
	return f.why
}

// refused tells the fault of a layer that answered an Errno, nil if that is OK.
func refused(e api.Errno, place int) error {
	if e == api.OK {
		return nil
	}
	return fault{why: number(e), place: place}
}
