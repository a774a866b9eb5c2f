"""The interface: each function is defined in its file, with its arguments by their names."""

import importlib
import inspect

from tests.helpers import Checked

INTERFACE = {
    "points": ("point(x, y, *, w=1)", "compare(a, b)", "distance2(a, b)", "ranked(points)"),
    "turns": ("turn(a, b, c)", "area2(a, b, c)", "between(a, b, p)"),
    "segments": ("meeting(a, b, c, d)", "crosses(a, b, c, d)"),
    "circles": ("circle_side(a, b, c, d)", "circumcenter(a, b, c)", "radius2(a, b, c)"),
    "hulls": ("hull(points)", "locate_in_hull(points, p)", "shows_in_hull(points, p, value)"),
    "polygons": ("polygon_flaw(value)", "area(polygon)", "side(polygon, p)", "lattice_counts(polygon)"),
    "triangulations": (
        "triangulation_flaw(points, value)", "triangulate(points)", "flippable(points, triangles)",
        "flip(points, triangles, edge)", "all_triangulations(points)", "flip_path(points, one, other)",
    ),
    "delaunay": (
        "illegal_edges(points, triangles)", "delaunay(points)", "angle_row(points, triangles)",
        "roughness(points, triangles, heights)", "largest_cap(points, triangles)",
    ),
    "signs": ("signs_of(points)", "contradiction(many, signs)", "realized(many, signs)"),
    "duality": ("above(line, p)", "dual_of_point(p)", "dual_of_line(line)", "level_corners(lines, k)"),
    "edgecounts": (
        "left_counts(points)", "crossing_count(points)", "halving_pairs(points)", "separable(points, k)",
        "halving_both(red, blue)",
    ),
    "centers": (
        "radon(points)", "tverberg(points)", "shows_common(points, value)", "depth(points, p)", "center(points)",
    ),
    "pointed": ("crossing_edges(points, edges)", "unpointed(points, edges)", "is_pointed(points, edges)"),
    "pseudo": (
        "is_pseudo(points, edges)", "completed(points, edges)", "pseudo_triangles(points, edges)",
        "partner(points, edges, edge)", "all_pseudo(points)",
    ),
    "rigidity": (
        "stress(points, edges)", "shows_stress(points, edges, value)", "laman_flaw(points, edges)",
        "opening(points, edges, edge)",
    ),
    "configs": ("orientation(config, indexes)", "content(config, indexes)"),
    "circuits": ("dependency(config, circuit)", "radon_parts(config, circuit)"),
    "covers": (
        "cover_flaw(config, value)", "placing(config)", "flips(config, cover)", "flipped(config, cover, circuit)",
        "all_covers(config)",
    ),
    "regular": (
        "shares(config, cover)", "folds(config, cover)", "regularity(config, cover)",
        "shows_regularity(config, cover, value)",
    ),
    "growing": (
        "births(points)", "complex_at(points, r)", "part_count(points, r)", "hole_count(points, r)",
        "ranks_at(points, r)",
    ),
    "bars": ("bars(points)", "alive(bars, r)"),
    "trees": ("spanning_tree(points)", "nested_graphs(points)"),
    "nearest": (
        "nearest_choices(points, k)", "holding(points, some)", "shows_holding(points, some, value)",
        "circle_counts(points)", "cell_corners(points, some)", "nearest(points, q, k)", "average_of(points, some)",
    ),
    "constrained": (
        "constrained(points, constraints)", "respects(points, constraints, triangles)",
        "seen_in_circles(points, constraints, triangles)",
    ),
    "refining": ("conforming(points, constraints, most)", "refined(points, constraints, bound, most)"),
    "cuttings": (
        "diagonals(polygon)", "cutting(polygon)", "is_cutting(polygon, value)", "cutting_count(polygon)",
        "ears(polygon, value)", "tree_of(polygon, value)", "are_pieces(polygon, value)", "fewest_pieces(polygon)",
    ),
    "boxes": ("is_free(world, place)", "shows_way(world, start, goal, value)"),
    "barriers": (
        "connection(world, start, goal)", "shows_barrier(world, start, goal, value)", "shortest(world, start, goal)",
        "region_count(world)", "free_cells(world)", "inner_clusters(world)",
    ),
    "texts": ("write_mesh(points, triangles)", "read_mesh(text)"),
}


class Interface(Checked):

    def test_functions(self):
        for file, rows in INTERFACE.items():
            module = importlib.import_module("meshcore." + file)
            for row in rows:
                name = row.partition("(")[0]
                call = getattr(module, name)
                self.assertEqual(call.__module__, "meshcore." + file)
                self.assertEqual(name + str(inspect.signature(call)), row)
