// Package layers holds no code: its tests compare what the packages import with the document's map of layers and with the language of the program.
package layers

import (
	"go/parser"
	"go/token"
	"path/filepath"
	"slices"
	"strconv"
	"strings"
	"testing"
)

// calls is the map of the document (shared/DOC.md): each package of a layer, and the packages that it may import.
var calls = []struct {
	layer, may string
}{
	{"api", ""},
	{"word", "api"},
	{"tree", "api"},
	{"lex", "api word"},
	{"fix", "api lex"},
	{"layout", "api tree"},
	{"syn", "api word tree lex"},
	{"parse", "api tree lex fix syn"},
	{"show", "api word tree lex fix layout syn"},
	{"typ", "api tree lex"},
	{"data", "api tree lex typ"},
	{"infer", "api tree syn typ data"},
	{"pat", "api word tree syn typ data"},
	{"choose", "api tree syn pat"},
	{"eval", "api word tree syn data"},
	{"op", "api"},
	{"asm", "api op"},
	{"text", "api op asm"},
	{"image", "api word op asm"},
	{"verify", "api syn op image"},
	{"heap", "api word"},
	{"vm", "api word image verify heap"},
	{"gen", "api tree syn data infer choose eval image"},
	{"iface", "api fix syn typ data infer image"},
	{"module", "api tree lex fix syn parse show typ data"},
	{"link", "api tree syn typ data infer eval gen iface module"},
}

// library is what the program may import of Go's library (shared/LANGUAGE.md, rule 1).
const library = "bytes cmp container/heap errors iter maps math math/bits slices sort strconv strings sync sync/atomic unicode unicode/utf8"

// allowed tells whether a package with the own packages of may can import path.
func allowed(may, path string) bool {
	own, isOwn := strings.CutPrefix(path, "triglyph/")
	if isOwn {
		return slices.Contains(strings.Fields(may), own)
	}
	return slices.Contains(strings.Fields(library), path)
}

// imports returns the paths that the files of a package import, but for its tests.
func imports(t *testing.T, layer string) []string {
	files, err := filepath.Glob(filepath.Join("..", layer, "*.go"))
	if err != nil {
		t.Fatal(err)
	}
	files = slices.DeleteFunc(files, func(f string) bool { return strings.HasSuffix(f, "_test.go") })
	if len(files) == 0 {
		t.Errorf("package %s is not there", layer)
	}
	var paths []string
	for _, f := range files {
		parsed, err := parser.ParseFile(token.NewFileSet(), f, nil, parser.ImportsOnly)
		if err != nil {
			t.Fatal(err)
		}
		for _, i := range parsed.Imports {
			path, err := strconv.Unquote(i.Path.Value)
			if err != nil {
				t.Fatal(err)
			}
			paths = append(paths, path)
		}
	}
	return paths
}

func TestLayersImportWhatTheyMay(t *testing.T) {
	for _, x := range calls {
		for _, path := range imports(t, x.layer) {
			if !allowed(x.may, path) {
				t.Errorf("package %s may not import %s", x.layer, path)
			}
		}
	}
}

func TestAllowed(t *testing.T) {
	for _, x := range []struct {
		may, path string
		want      bool
	}{
		{"api word", "triglyph/api", true},
		{"api word", "triglyph/word", true},
		{"api word", "triglyph/lex", false},
		{"", "triglyph/api", false},
		{"api", "strings", true},
		{"api", "math/bits", true},
		{"api", "fmt", false},
		{"api", "math/rand", false},
		{"api", "api", false},
	} {
		if got := allowed(x.may, x.path); got != x.want {
			t.Errorf("allowed(%q, %q) = %v", x.may, x.path, got)
		}
	}
}
