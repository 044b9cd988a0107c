package topiary_test

import (
	"go/parser"
	"go/token"
	"path/filepath"
	"slices"
	"strings"
	"testing"
)

// layers are the packages in the order of their layers.
var layers = []string{
	"bits", "ints", "rank", "wave", "shaped", "order", "suffix", "turned", "fm", "values", "chars",
	"lexer", "parser", "canon", "tree", "xbw", "nav", "sub", "query", "eval", "box", "engine",
}

// below are the layers that each layer may import, as its chapter says, beside package api.
var below = map[string][]int{
	"bits": {}, "ints": {1}, "rank": {1, 2}, "wave": {1, 2, 3}, "shaped": {1, 3}, "order": {}, "suffix": {6},
	"turned": {6, 7}, "fm": {1, 2, 3, 4, 6, 7, 8}, "values": {6, 9}, "chars": {}, "lexer": {11}, "parser": {11, 12},
	"canon": {11, 13}, "tree": {}, "xbw": {6, 15}, "nav": {1, 2, 3, 4, 6, 15, 16}, "sub": {6, 17}, "query": {11},
	"eval": {6, 15, 17, 18, 19}, "box": {1, 2, 3, 4, 9, 10, 13, 14, 15, 16, 17}, "engine": {10, 14, 17, 18, 19, 20, 21},
}

// alone are the layers of which the chapter says that they import only package api:
// nothing of the library either.
var alone = []string{"bits", "order", "chars", "tree"}

// library is what the program may import of Go's library.
var library = []string{
	"bytes", "cmp", "container/heap", "errors", "iter", "maps", "math", "math/bits", "slices", "sort", "strconv",
	"strings", "sync", "sync/atomic", "unicode", "unicode/utf8",
}

// imports are what the files of a package, but its tests, import.
func imports(t *testing.T, folder string) []string {
	t.Helper()
	files, err := filepath.Glob(filepath.Join(folder, "*.go"))
	if err != nil || len(files) == 0 {
		t.Fatalf("%s has no files: %v", folder, err)
	}
	var out []string
	for _, name := range files {
		if strings.HasSuffix(name, "_test.go") {
			continue
		}
		f, err := parser.ParseFile(token.NewFileSet(), name, nil, parser.ImportsOnly)
		if err != nil {
			t.Fatal(err)
		}
		for _, i := range f.Imports {
			out = append(out, strings.Trim(i.Path.Value, `"`))
		}
	}
	return out
}

func TestLayersImport(t *testing.T) {
	for _, layer := range layers {
		allowed := []string{"topiary/api"}
		for _, number := range below[layer] {
			allowed = append(allowed, "topiary/"+layers[number-1])
		}
		if !slices.Contains(alone, layer) {
			allowed = append(allowed, library...)
		}
		for _, path := range imports(t, layer) {
			if !slices.Contains(allowed, path) {
				t.Errorf("layer %s imports %s", layer, path)
			}
		}
	}
}
