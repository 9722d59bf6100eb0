package path_test

import (
	"fmt"
	"math"
	"slices"
	"strings"
	"testing"

	"shellgame/path"
)

// tree is one that is right, and what P1 says of it.
type tree struct{ leaves, depth, nodes int }

// trees are all that are right, written out.
func trees() []tree {
	return []tree{
		{1, 0, 1}, {2, 1, 3}, {4, 2, 7}, {8, 3, 15}, {16, 4, 31}, {32, 5, 63},
		{64, 6, 127}, {128, 7, 255}, {256, 8, 511}, {512, 9, 1023}, {1024, 10, 2047},
	}
}

func isRight(leaves int) bool {
	return slices.ContainsFunc(trees(), func(tr tree) bool { return tr.leaves == leaves })
}

// wrongTrees are the edges of an int, powers of two that are too great, and the neighbours of each power.
func wrongTrees() []int {
	l := []int{
		0, -1, -2, -3, -4, -8, -1024, -1025, -2048, 3, 5, 6, 7, 9, 10, 12, 24, 768, 1000, 1023, 1025, 1026, 2047, 2048, 2049, 4096,
		math.MaxInt, math.MaxInt - 1, math.MinInt, math.MinInt + 1, math.MinInt + 2, math.MinInt + 1024,
	}
	for i := range 63 {
		l = append(l, 1<<i-1, 1<<i, 1<<i+1, 1<<i+4, 1<<i+1024, -(1 << i))
	}
	return slices.DeleteFunc(l, isRight)
}

// wrongLeaves are leaves that a tree of so many does not have.
func wrongLeaves(leaves int) []int {
	l := []int{
		leaves, leaves + 1, 2*leaves - 1, 2 * leaves, 1024, 1 << 16, 1 << 32, 1<<32 + leaves - 1, 1 << 62, math.MaxInt - 1, math.MaxInt,
		-1, -2, -leaves, -leaves - 1, -1024, -1 << 32, math.MinInt, math.MinInt + 1, math.MinInt + leaves - 1,
	}
	return slices.DeleteFunc(l, func(leaf int) bool { return leaf >= 0 && leaf < leaves })
}

// wrongDepths are depths that a tree with so many levels below its root does not have.
func wrongDepths(depth int) []int {
	return []int{
		depth + 1, depth + 2, 11, 62, 63, 64, 65, 64 + depth, 256, 1 << 32, 1<<32 + depth, math.MaxInt - 1, math.MaxInt,
		-1, -2, -depth - 1, -64, -64 + depth, -1 << 32, math.MinInt, math.MinInt + 1, math.MinInt + depth,
	}
}

// someLeaves are leaves of a tree: the edges, the middle and a few between.
func someLeaves(leaves int) []int {
	l := []int{0, 1, leaves/2 - 1, leaves / 2, leaves / 3, leaves - 2, leaves - 1}
	l = slices.DeleteFunc(l, func(leaf int) bool { return leaf < 0 || leaf >= leaves })
	slices.Sort(l)
	return slices.Compact(l)
}

// climbed says P2 from the leaf up to the root: ahead of the deepest level stand leaves - 1 nodes, and below node n lie 2n + 1 and 2n + 2.
func climbed(leaves, leaf int) []int {
	node := leaves - 1 + leaf
	way := []int{node}
	for node != 0 {
		if node%2 == 1 {
			node = (node - 1) / 2
		} else {
			node = (node - 2) / 2
		}
		way = append(way, node)
	}
	slices.Reverse(way)
	return way
}

// common is the last place at which two ways have one node.
func common(a, b []int) int {
	last := -1
	for i := range a {
		if a[i] == b[i] {
			last = i
		}
	}
	return last
}

func checkNode(t *testing.T, leaves, leaf, depth, want int) {
	t.Helper()
	if got := path.Node(leaves, leaf, depth); got != want {
		t.Errorf("Node(%d, %d, %d) = %d, not %d", leaves, leaf, depth, got, want)
	}
}

func checkPath(t *testing.T, leaves, leaf int, want []int) {
	t.Helper()
	if got := path.Path(leaves, leaf); !slices.Equal(got, want) {
		t.Errorf("Path(%d, %d) = %v, not %v", leaves, leaf, got, want)
	}
}

// checkDeep asks in both orders.
func checkDeep(t *testing.T, leaves, a, b, want int) {
	t.Helper()
	if got := path.Deep(leaves, a, b); got != want {
		t.Errorf("Deep(%d, %d, %d) = %d, not %d", leaves, a, b, got, want)
	}
	if got := path.Deep(leaves, b, a); got != want {
		t.Errorf("Deep(%d, %d, %d) = %d, not %d", leaves, b, a, got, want)
	}
}

// checkTree asks the three calls of P1.
func checkTree(t *testing.T, leaves int, right bool, depth, nodes int) {
	t.Helper()
	if got := path.Right(leaves); got != right {
		t.Errorf("Right(%d) = %v", leaves, got)
	}
	if got := path.Depth(leaves); got != depth {
		t.Errorf("Depth(%d) = %d, not %d", leaves, got, depth)
	}
	if got := path.Nodes(leaves); got != nodes {
		t.Errorf("Nodes(%d) = %d, not %d", leaves, got, nodes)
	}
}

// P1.

func TestMostLeaves(t *testing.T) {
	if path.MaxLeaves != 1024 {
		t.Errorf("MaxLeaves is %d", path.MaxLeaves)
	}
	checkTree(t, path.MaxLeaves, true, 10, 2047)
	checkTree(t, 2*path.MaxLeaves, false, 0, 0)
}

func TestTreesThatAreRight(t *testing.T) {
	for _, tr := range trees() {
		checkTree(t, tr.leaves, true, tr.depth, tr.nodes)
	}
}

func TestTreesThatAreNotRight(t *testing.T) {
	for _, leaves := range wrongTrees() {
		checkTree(t, leaves, false, 0, 0)
	}
}

func TestEachNumberAroundTheTrees(t *testing.T) {
	for leaves := -5000; leaves <= 5000; leaves++ {
		if !isRight(leaves) {
			checkTree(t, leaves, false, 0, 0)
		}
	}
}

// Each level has twice as many nodes as the one above it, and the deepest one is the leaves.
func TestLevelsAddUpToTheNodes(t *testing.T) {
	for _, tr := range trees() {
		nodes, width := 0, 1
		for range path.Depth(tr.leaves) {
			nodes += width
			width *= 2
		}
		if width != tr.leaves || nodes+width != path.Nodes(tr.leaves) {
			t.Errorf("of %d leaves: %d on the deepest level, %d nodes", tr.leaves, width, nodes+width)
		}
	}
}

// P2.

func TestEachNodeOfEachWay(t *testing.T) {
	for _, tr := range trees() {
		for leaf := range tr.leaves {
			for depth, node := range climbed(tr.leaves, leaf) {
				checkNode(t, tr.leaves, leaf, depth, node)
			}
		}
	}
}

func TestEachWay(t *testing.T) {
	for _, tr := range trees() {
		for leaf := range tr.leaves {
			checkPath(t, tr.leaves, leaf, climbed(tr.leaves, leaf))
		}
	}
}

func TestWaysWrittenOut(t *testing.T) {
	for _, c := range []struct {
		leaves, leaf int
		way          []int
	}{
		{1, 0, []int{0}},
		{2, 0, []int{0, 1}},
		{2, 1, []int{0, 2}},
		{4, 0, []int{0, 1, 3}},
		{4, 1, []int{0, 1, 4}},
		{4, 2, []int{0, 2, 5}},
		{4, 3, []int{0, 2, 6}},
		{8, 0, []int{0, 1, 3, 7}},
		{8, 3, []int{0, 1, 4, 10}},
		{8, 4, []int{0, 2, 5, 11}},
		{8, 6, []int{0, 2, 6, 13}},
		{8, 7, []int{0, 2, 6, 14}},
		{16, 5, []int{0, 1, 4, 9, 20}},
		{1024, 0, []int{0, 1, 3, 7, 15, 31, 63, 127, 255, 511, 1023}},
		{1024, 1, []int{0, 1, 3, 7, 15, 31, 63, 127, 255, 511, 1024}},
		{1024, 511, []int{0, 1, 4, 10, 22, 46, 94, 190, 382, 766, 1534}},
		{1024, 512, []int{0, 2, 5, 11, 23, 47, 95, 191, 383, 767, 1535}},
		{1024, 1023, []int{0, 2, 6, 14, 30, 62, 126, 254, 510, 1022, 2046}},
	} {
		checkPath(t, c.leaves, c.leaf, c.way)
		for depth, node := range c.way {
			checkNode(t, c.leaves, c.leaf, depth, node)
		}
	}
}

func TestEachPairOfLeaves(t *testing.T) {
	for _, tr := range trees() {
		ways := make([][]int, tr.leaves)
		for leaf := range ways {
			ways[leaf] = climbed(tr.leaves, leaf)
		}
		for a := range tr.leaves {
			for b := range a + 1 {
				checkDeep(t, tr.leaves, a, b, common(ways[a], ways[b]))
			}
		}
	}
}

func TestDeepWrittenOut(t *testing.T) {
	for _, c := range []struct{ leaves, a, b, want int }{
		{1, 0, 0, 0},
		{2, 0, 0, 1}, {2, 1, 1, 1}, {2, 0, 1, 0},
		{4, 0, 1, 1}, {4, 0, 2, 0}, {4, 0, 3, 0}, {4, 1, 3, 0}, {4, 3, 3, 2},
		{8, 0, 0, 3}, {8, 0, 1, 2}, {8, 0, 2, 1}, {8, 1, 3, 1}, {8, 0, 4, 0}, {8, 3, 4, 0}, {8, 0, 7, 0}, {8, 4, 7, 1}, {8, 6, 7, 2},
		{1024, 0, 0, 10}, {1024, 1023, 1023, 10}, {1024, 0, 1, 9}, {1024, 1022, 1023, 9}, {1024, 511, 512, 0}, {1024, 0, 1023, 0},
		{1024, 0, 512, 0}, {1024, 0, 256, 1}, {1024, 512, 768, 1}, {1024, 0, 16, 5}, {1024, 0, 31, 5}, {1024, 640, 671, 5}, {1024, 640, 672, 4},
	} {
		checkDeep(t, c.leaves, c.a, c.b, c.want)
	}
}

// One leaf lies in trees of each size, and each has a way of its own to it.
func TestOneLeafInTreesOfEachSize(t *testing.T) {
	for _, tr := range trees()[3:] {
		checkNode(t, tr.leaves, 5, tr.depth, tr.leaves+4)
		checkNode(t, tr.leaves, 5, tr.depth-3, tr.leaves/8-1)
		checkDeep(t, tr.leaves, 5, 2, tr.depth-3)
		checkDeep(t, tr.leaves, 5, 7, tr.depth-2)
		checkDeep(t, tr.leaves, 5, 4, tr.depth-1)
	}
}

// Leaf, other leaf and depth are right somewhere: there must be no tree in which they are.
func TestTreesThatAreNotRightHaveNoWays(t *testing.T) {
	for _, leaves := range wrongTrees() {
		for _, leaf := range []int{0, 1, 2, 3, 1023, 1024, leaves - 1, leaves / 2, leaves, -1, math.MinInt, math.MaxInt} {
			checkPath(t, leaves, leaf, nil)
			for _, depth := range []int{0, 1, 2, 9, 10, 11, 62, 63, 64, -1, math.MinInt, math.MaxInt} {
				checkNode(t, leaves, leaf, depth, -1)
			}
			for _, other := range []int{leaf, 0, 1, 7, leaves - 1, -1, math.MinInt, math.MaxInt} {
				checkDeep(t, leaves, leaf, other, -1)
			}
		}
	}
}

func TestLeavesThatThereAreNot(t *testing.T) {
	for _, tr := range trees() {
		for _, wrong := range wrongLeaves(tr.leaves) {
			checkPath(t, tr.leaves, wrong, nil)
			for depth := range tr.depth + 1 {
				checkNode(t, tr.leaves, wrong, depth, -1)
			}
			for _, depth := range wrongDepths(tr.depth) {
				checkNode(t, tr.leaves, wrong, depth, -1)
			}
		}
	}
}

func TestDepthsThatThereAreNot(t *testing.T) {
	for _, tr := range trees() {
		for _, leaf := range someLeaves(tr.leaves) {
			for _, wrong := range wrongDepths(tr.depth) {
				checkNode(t, tr.leaves, leaf, wrong, -1)
			}
		}
	}
}

func TestDeepOfLeavesThatThereAreNot(t *testing.T) {
	for _, tr := range trees() {
		for _, wrong := range wrongLeaves(tr.leaves) {
			for _, leaf := range someLeaves(tr.leaves) {
				checkDeep(t, tr.leaves, leaf, wrong, -1)
			}
			for _, other := range []int{wrong, tr.leaves, -1, math.MinInt, math.MaxInt} {
				checkDeep(t, tr.leaves, wrong, other, -1)
			}
		}
	}
}

// The leaves and depths at the edges, one by one.
func TestEdgesWrittenOut(t *testing.T) {
	for _, tr := range []tree{{1, 0, 1}, {2, 1, 3}, {1024, 10, 2047}} {
		for _, leaf := range []int{0, tr.leaves - 1} {
			checkNode(t, tr.leaves, leaf, 0, 0)
			checkNode(t, tr.leaves, leaf, tr.depth, tr.leaves-1+leaf)
			checkDeep(t, tr.leaves, leaf, leaf, tr.depth)
			for _, depth := range []int{tr.depth + 1, -1, math.MinInt, math.MaxInt} {
				checkNode(t, tr.leaves, leaf, depth, -1)
			}
		}
		for _, leaf := range []int{tr.leaves, -1, math.MinInt, math.MaxInt} {
			checkPath(t, tr.leaves, leaf, nil)
			checkNode(t, tr.leaves, leaf, 0, -1)
			checkNode(t, tr.leaves, leaf, tr.depth, -1)
			checkDeep(t, tr.leaves, leaf, leaf, -1)
			checkDeep(t, tr.leaves, leaf, 0, -1)
			checkDeep(t, tr.leaves, leaf, tr.leaves-1, -1)
		}
	}
	for _, leaves := range []int{0, 3, 1023, 1025, 2048, -1, -2, -1024, math.MinInt, math.MaxInt} {
		checkTree(t, leaves, false, 0, 0)
		checkPath(t, leaves, 0, nil)
		checkNode(t, leaves, 0, 0, -1)
		checkDeep(t, leaves, 0, 0, -1)
	}
}

// P3.

func TestAWayGoesDownNodeByNode(t *testing.T) {
	for _, tr := range trees() {
		for leaf := range tr.leaves {
			way := path.Path(tr.leaves, leaf)
			if len(way) != tr.depth+1 || way[0] != 0 {
				t.Fatalf("Path(%d, %d) = %v", tr.leaves, leaf, way)
			}
			for depth, node := range way {
				if first := 1<<depth - 1; node < first || node > 2*first || node >= tr.nodes {
					t.Errorf("Path(%d, %d): node %d is not of level %d", tr.leaves, leaf, node, depth)
				}
				if depth > 0 && node != 2*way[depth-1]+1 && node != 2*way[depth-1]+2 {
					t.Errorf("Path(%d, %d): node %d is not below %d", tr.leaves, leaf, node, way[depth-1])
				}
			}
		}
	}
}

// Each node is on as many ways as leaves lie below it, and these lie side by side.
func TestEachNodeIsOnTheWaysToTheLeavesBelowIt(t *testing.T) {
	for _, tr := range trees() {
		below := make([][]int, tr.nodes)
		for leaf := range tr.leaves {
			for _, node := range path.Path(tr.leaves, leaf) {
				if node < 0 || node >= tr.nodes {
					t.Fatalf("Path(%d, %d) has node %d", tr.leaves, leaf, node)
				}
				below[node] = append(below[node], leaf)
			}
		}
		for depth := range tr.depth + 1 {
			many := tr.leaves >> depth
			for i := range 1 << depth {
				node := 1<<depth - 1 + i
				if l := below[node]; len(l) != many || l[0] != i*many || l[many-1] != i*many+many-1 {
					t.Errorf("of %d leaves: below node %d lie %v", tr.leaves, node, l)
				}
			}
		}
	}
}

func TestDeepOfALeafWithItself(t *testing.T) {
	for _, tr := range trees() {
		for leaf := range tr.leaves {
			if got := path.Deep(tr.leaves, leaf, leaf); got != tr.depth || got != path.Depth(tr.leaves) {
				t.Errorf("Deep(%d, %d, %d) = %d", tr.leaves, leaf, leaf, got)
			}
		}
	}
}

// bitsOf are a leaf's bits, the highest one first, as many as there are levels below the root.
func bitsOf(leaf, depth int) string {
	return fmt.Sprintf("%064b", leaf)[64-depth:]
}

func TestDeepIsHowManyBitsAreInCommon(t *testing.T) {
	for _, tr := range trees() {
		for _, a := range someLeaves(tr.leaves) {
			for b := range tr.leaves {
				many := tr.depth
				for !strings.HasPrefix(bitsOf(b, tr.depth), bitsOf(a, tr.depth)[:many]) {
					many--
				}
				checkDeep(t, tr.leaves, a, b, many)
			}
		}
	}
}

// Two leaves that differ in one bit part where that bit is the turn, whichever bit it is.
func TestLeavesThatDifferByOneBit(t *testing.T) {
	for _, tr := range trees() {
		for bit := range tr.depth {
			for leaf := range tr.leaves {
				checkDeep(t, tr.leaves, leaf, leaf^1<<bit, tr.depth-1-bit)
			}
		}
	}
}

func TestDeepIsWhereWaysPart(t *testing.T) {
	for _, tr := range trees() {
		for _, a := range someLeaves(tr.leaves) {
			for b := range tr.leaves {
				deep := path.Deep(tr.leaves, a, b)
				for depth := range tr.depth + 1 {
					one := path.Node(tr.leaves, a, depth) == path.Node(tr.leaves, b, depth)
					if one != (depth <= deep) {
						t.Errorf("Deep(%d, %d, %d) = %d, and one node at %d: %v", tr.leaves, a, b, deep, depth, one)
					}
				}
			}
		}
	}
}

// DOC.md's P3 and P4: a way that is told is new, and hangs on nothing that was asked or changed before.
func TestWaysAreNewEachTime(t *testing.T) {
	for _, tr := range trees() {
		leaf := tr.leaves - 1
		first, second := path.Path(tr.leaves, leaf), path.Path(tr.leaves, leaf)
		for i := range first {
			first[i] = 99
		}
		_ = append(first, 98)
		if want := climbed(tr.leaves, leaf); !slices.Equal(second, want) || !slices.Equal(path.Path(tr.leaves, leaf), want) {
			t.Errorf("Path(%d, %d) hangs on an earlier answer", tr.leaves, leaf)
		}
		path.Path(3, 0)
		path.Node(2048, -1, math.MinInt)
		path.Deep(tr.leaves, leaf, math.MaxInt)
		checkNode(t, tr.leaves, leaf, tr.depth, tr.nodes-1)
		checkDeep(t, tr.leaves, leaf, leaf, tr.depth)
		checkTree(t, tr.leaves, true, tr.depth, tr.nodes)
	}
}

func TestChapterExample(t *testing.T) {
	checkPath(t, 4, 2, []int{0, 2, 5})
	if got := path.Deep(4, 2, 3); got != 1 {
		t.Errorf("Deep(4, 2, 3) = %d", got)
	}
	if got := path.Deep(4, 1, 2); got != 0 {
		t.Errorf("Deep(4, 1, 2) = %d", got)
	}
}
