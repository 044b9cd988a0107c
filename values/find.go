package values

// Count is at how many places p stands in texts; the empty one stands at each byte,
// and behind the last one of each text.
func (v Values) Count(p string) int {
	if p == "" {
		return v.x.Len()
	}
	return v.x.Count(v.symbols(p))
}

// Ids is in which texts p stands, rising, each once. The empty one stands at the end of
// each.
func (v Values) Ids(p string) []int {
	var found []int
	tell := func(place int) {
		i := v.text(place)
		if len(found) == 0 || found[len(found)-1] != i {
			found = append(found, i)
		}
	}
	places := v.ends
	if p != "" {
		places = v.x.Find(v.symbols(p))
	}
	for _, place := range places {
		tell(place)
	}
	return found
}

// Equal is which texts are p, rising: those with the end of the text ahead of p, and
// their own one behind it; ahead of the first text, no end stands.
func (v Values) Equal(p string) []int {
	var found []int
	if v.isFirst(p) {
		found = append(found, 0)
	}
	row := append([]int{end}, v.symbols(p)...)
	for _, place := range v.x.Find(append(row, end)) {
		found = append(found, v.text(place)+1)
	}
	return found
}

// isFirst tells whether the first text is p.
func (v Values) isFirst(p string) bool {
	return len(v.ends) > 0 && v.ends[0] == len(p) && v.told(0, len(p)) == p
}

// symbols is those of p. If p is longer than all texts together, it stands nowhere,
// as little as a beginning of it that is too long: no more need be gone over.
func (v Values) symbols(p string) []int {
	return withSymbols(nil, p[:min(len(p), v.Bytes()+1)])
}
