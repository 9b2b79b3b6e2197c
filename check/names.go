package check

import "sextant/api"

// room is where the cells of a shared name lie.
type room struct{ base, size int }

// declare lays out the shared names one behind the other, and tells how many cells they have in all.
func declare(list []api.Shared) (map[string]room, int, api.Fault) {
	shared := map[string]room{}
	all := 0
	for _, s := range list {
		code := api.OK
		if _, twice := shared[s.Name]; twice {
			code = api.ETWICE
		} else if !isSize(s.Size) {
			code = api.EARRAY
		} else if all+cellsOf(s.Size) > api.MaxCells {
			code = api.ECELLS
		}
		if code != api.OK {
			return nil, 0, api.Fault{Code: code, Line: s.Line, Col: s.Col}
		}
		shared[s.Name] = room{base: all, size: s.Size}
		all += cellsOf(s.Size)
	}
	return shared, all, api.Fault{}
}
