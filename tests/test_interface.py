"""Points [2], [10] and [12] for all modules: names, arguments, tuples for lists, nothing changed, nothing kept."""

import importlib
import inspect
import unittest

from helpers import row_tree, snapshot, star_tree, values_of_all_kinds
from neverunsaid.arrows import arrows, is_picture, logs_fit, picture
from neverunsaid.calm import bound, calm_round, is_settled, lacking, settle
from neverunsaid.desk import Desk, act_line, read_act
from neverunsaid.disks import Disk
from neverunsaid.examiner import findings, rows_left
from neverunsaid.frames import framed, frames_in
from neverunsaid.held import held, is_why_held, keeps_all, standing_lacking, why_held
from neverunsaid.houses import House
from neverunsaid.letters import is_era, is_letter
from neverunsaid.logs import Log
from neverunsaid.mending import wait_of
from neverunsaid.plain import Plain, is_script, run_plain
from neverunsaid.plans import added, is_plan, plan
from neverunsaid.readers import Reader
from neverunsaid.roads import came_over, to_send
from neverunsaid.slow import ahead_slow, held_slow, standings
from neverunsaid.standings import goes_on, is_rows, is_standing, is_standing_fault, script_to, standing_fault
from neverunsaid.story import explained, gone, is_explained, made
from neverunsaid.sure import ahead, is_ahead, is_paper, standing_without, why_ahead
from neverunsaid.texts import is_cell, is_line, is_text, key, line_text, read_line
from neverunsaid.trees import Tree, neighbours, on_way, read_tree, side, way
from neverunsaid.views import alike, is_kinds, parting, view, views
from neverunsaid.worlds import World, is_acts, run

FUNCTIONS = {
    "texts": {"is_cell": "value", "is_text": "value", "is_line": "value", "key": "line", "line_text": "line", "read_line": "text"},
    "trees": {"neighbours": "tree house", "way": "tree a b", "on_way": "tree a b house", "side": "tree u v", "read_tree": "text"},
    "frames": {"framed": "text", "frames_in": "signs"},
    "plain": {"is_script": "tree value", "run_plain": "tree script"},
    "standings": {"is_rows": "tree value", "standing_fault": "tree rows", "is_standing_fault": "tree rows value",
                  "is_standing": "tree value", "script_to": "tree rows", "goes_on": "tree rows later"},
    "arrows": {"arrows": "tree logs house", "picture": "tree logs", "is_picture": "tree logs value", "logs_fit": "tree logs"},
    "sure": {"ahead": "tree logs house", "is_ahead": "tree logs house x z", "why_ahead": "tree logs house x z",
             "is_paper": "tree logs house x z value", "standing_without": "tree logs house x z"},
    "held": {"held": "tree logs", "why_held": "tree logs house key", "is_why_held": "tree logs house key value",
             "standing_lacking": "tree logs house key", "keeps_all": "tree logs"},
    "plans": {"plan": "tree logs", "is_plan": "tree logs value", "added": "tree logs"},
    "slow": {"standings": "tree logs", "held_slow": "tree logs", "ahead_slow": "tree logs house"},
    "letters": {"is_era": "value", "is_letter": "tree value"},
    "roads": {"came_over": "tree lines u v", "to_send": "tree lines u v count"},
    "mending": {"wait_of": "tree house"},
    "worlds": {"is_acts": "tree value", "run": "tree acts"},
    "calm": {"calm_round": "world", "is_settled": "world", "settle": "world", "bound": "tree", "lacking": "world"},
    "examiner": {"rows_left": "world", "findings": "world"},
    "desk": {"act_line": "act", "read_act": "line"},
    "views": {"is_kinds": "value", "view": "kinds lines cell", "views": "kinds lines", "alike": "tree rows cell", "parting": "tree rows cell"},
    "story": {"explained": "world", "is_explained": "world value", "made": "world", "gone": "world"},
}
CLASSES = {
    ("trees", "Tree"): {"__init__": "houses roads", "__len__": "", "__contains__": "value", "__eq__": "other", "line": ""},
    ("disks", "Disk"): {"__init__": "", "put": "signs", "sync": "", "trim": "many", "fall": "keep", "lose": "many"},
    ("logs", "Log"): {"__init__": "disk", "__len__": "", "put": "lines"},
    ("plain", "Plain"): {"__init__": "tree", "make": "house cell text", "hand": "u v", "row": "house", "shows": "house",
                         "under_way": "u v", "rows": ""},
    ("houses", "House"): {"__init__": "tree number disk life", "write": "cell text", "shows": "", "tick": "", "take": "sender letter"},
    ("worlds", "World"): {"__init__": "tree", "house": "h", "disk": "h", "tick": "h", "carry": "k", "drop": "k", "double": "k",
                          "stop": "h keep", "cut": "h many", "rise": "h", "write": "h cell text"},
    ("desk", "Desk"): {"__init__": "tree", "do": "line", "board": "h"},
    ("readers", "Reader"): {"__init__": "", "follow": "lines", "forget": "at"},
}
PROPERTIES = {("disks", "Disk"): ["text", "synced"], ("logs", "Log"): ["lines"], ("plain", "Plain"): ["script"],
              ("worlds", "World"): ["letters", "acts"], ("readers", "Reader"): ["read"]}
X, Z = (0, 0, "bell", "rings"), (2, 0, "door", "")


def module(name):
    return importlib.import_module("neverunsaid." + name)


def parameters(function):
    return list(inspect.signature(function).parameters)


class Names(unittest.TestCase):
    def test_functions_stand_in_their_modules_with_their_arguments(self):
        for name, functions in FUNCTIONS.items():
            for function, arguments in functions.items():
                found = getattr(module(name), function)
                self.assertEqual(found.__module__, "neverunsaid." + name)
                self.assertEqual(parameters(found), arguments.split(), function)

    def test_methods_stand_in_the_classes_themselves(self):
        for (name, class_name), methods in CLASSES.items():
            found = getattr(module(name), class_name)
            self.assertEqual(found.__module__, "neverunsaid." + name)
            for method, arguments in methods.items():
                self.assertEqual(parameters(vars(found)[method])[1:], arguments.split(), method)
            for told in PROPERTIES.get((name, class_name), []):
                self.assertIsInstance(vars(found)[told], property)


class ByName(unittest.TestCase):
    def test_calls_by_the_names_of_the_interface(self):
        tree = Tree(roads=[(0, 1), (1, 2)], houses=3)
        calls = [
            (is_cell, {"value": "bell"}, True), (is_text, {"value": ""}, True), (is_line, {"value": X}, True),
            (key, {"line": X}, (0, 0)), (line_text, {"line": X}, "0 0 bell rings"), (read_line, {"text": "0 0 bell rings"}, X),
            (neighbours, {"house": 1, "tree": tree}, [0, 2]), (way, {"b": 0, "a": 2, "tree": tree}, (2, 1, 0)),
            (on_way, {"house": 1, "a": 0, "b": 2, "tree": tree}, True), (side, {"v": 1, "u": 0, "tree": tree}, [0]),
            (read_tree, {"text": "3: 0-1 1-2"}, tree), (framed, {"text": "ab"}, "0002ab."),
            (frames_in, {"signs": "0002ab."}, (["ab"], 7)), (is_script, {"value": [], "tree": tree}, True),
            (is_rows, {"value": [[], [], []], "tree": tree}, True), (standing_fault, {"rows": [[], [], []], "tree": tree}, None),
            (is_standing_fault, {"value": None, "rows": [[], [], []], "tree": tree}, False),
            (is_standing, {"value": [[X], [], []], "tree": tree}, True),
            (script_to, {"rows": [[X], [], []], "tree": tree}, [("make", 0, "bell", "rings")]),
            (goes_on, {"later": [[X], [], []], "rows": [[], [], []], "tree": tree}, True),
        ]
        logs, paper = [[X], [X], [Z]], ("one", 1, (1, 1))
        asked = {"z": (2, 0), "x": (0, 0), "house": 1, "logs": logs, "tree": tree}
        turned = {"z": (0, 0), "x": (2, 0), "house": 1, "logs": logs, "tree": tree}
        lacked = {"key": (2, 0), "house": 0, "logs": logs, "tree": tree}
        calls += [
            (arrows, {"house": 2, "logs": logs, "tree": tree}, [((2, 0), (0, 0), (2, 1))]), (picture, {"logs": logs, "tree": tree}, None),
            (is_picture, {"value": None, "logs": logs, "tree": tree}, False), (logs_fit, {"logs": logs, "tree": tree}, True),
            (ahead, {"house": 1, "logs": logs, "tree": tree}, [((0, 0), (2, 0))]), (is_ahead, asked, True), (why_ahead, asked, paper),
            (is_paper, {"value": paper, **asked}, True), (standing_without, turned, [[X], [X], [Z]]),
            (held, {"logs": logs, "tree": tree}, [[(0, 0)], [(0, 0)], [(2, 0)]]),
            (why_held, {"key": (2, 0), "house": 2, "logs": logs, "tree": tree}, 2), (is_why_held, {"value": 2, **lacked}, False),
            (standing_lacking, lacked, [[X], [X], [Z]]), (keeps_all, {"logs": logs, "tree": tree}, [0, 1, 2]),
            (plan, {"logs": logs, "tree": tree}, [[X], [X], [Z]]), (is_plan, {"value": logs, "logs": logs, "tree": tree}, True),
            (added, {"logs": logs, "tree": tree}, [[], [], []]), (standings, {"logs": [[], [], []], "tree": tree}, [((), (), ())]),
            (held_slow, {"logs": logs, "tree": tree}, [[(0, 0)], [(0, 0)], [(2, 0)]]),
            (ahead_slow, {"house": 1, "logs": logs, "tree": tree}, [((0, 0), (2, 0))]), (is_era, {"value": (1, 7, 2)}, True),
            (is_letter, {"value": ("sure", (1, 2, 2)), "tree": tree}, True),
            (came_over, {"v": 1, "u": 0, "lines": [X, Z], "tree": tree}, 1),
            (to_send, {"count": 0, "v": 1, "u": 2, "lines": [X, Z], "tree": tree}, [Z]), (wait_of, {"house": 1, "tree": tree}, 14),
        ]
        world, kinds, whole = World(tree=tree), [("bell", "most")], [[X], [X], [X]]
        calls += [
            (is_acts, {"value": [("tick", 0)], "tree": tree}, True), (bound, {"tree": tree}, 38), (is_settled, {"world": world}, False),
            (lacking, {"world": world}, 0), (calm_round, {"world": world}, None), (rows_left, {"world": world}, [[], [], []]),
            (findings, {"world": world}, []), (act_line, {"act": ("stop", 1, 0)}, "stop 1 0"), (read_act, {"line": "tick 2"}, ("tick", 2)),
            (is_kinds, {"value": kinds}, True), (view, {"cell": "bell", "lines": [X], "kinds": kinds}, "rings"),
            (views, {"lines": [X], "kinds": kinds}, [("bell", "rings")]), (alike, {"cell": "bell", "rows": whole, "tree": tree}, True),
            (parting, {"cell": "bell", "rows": whole, "tree": tree}, None), (explained, {"world": world}, ([[], [], []], [])),
            (is_explained, {"value": ([[], [], []], []), "world": world}, True), (made, {"world": world}, []), (gone, {"world": world}, []),
        ]
        for function, named, wanted in calls:
            self.assertEqual(function(**named), wanted, function)
            self.assertEqual(function(*[named[name] for name in parameters(function)]), wanted, function)

    def test_methods_by_the_names_of_the_interface(self):
        plain = Plain(tree=row_tree(3))
        self.assertEqual(plain.make(text="rings", cell="bell", house=0), X)
        self.assertEqual((plain.under_way(v=1, u=0), plain.hand(v=1, u=0)), ((X,), X))
        self.assertEqual((plain.row(house=1), plain.shows(house=1)), ((X,), (X,)))
        self.assertEqual(run_plain(script=plain.script, tree=plain.tree).rows(), plain.rows())
        disk = Disk()
        self.assertEqual([disk.put(signs="abcd"), disk.trim(many=3), disk.fall(keep=1), disk.lose(many=2)], [None] * 4)
        self.assertEqual(disk.text, "ab")
        log = Log(disk=disk)
        self.assertIsNone(log.put(lines=[X]))
        self.assertEqual(log.lines, (X,))

    def test_methods_of_houses_and_worlds_by_the_names_of_the_interface(self):
        house = House(life=4, disk=Disk(), number=0, tree=Tree(1, []))
        self.assertEqual(house.take(letter=("elder", (7, 0, 2)), sender=0), [])
        self.assertEqual((house.write(text="rings", cell="bell"), house.shows(), house.tick()), (X, (X,), []))
        world = run(acts=[("stop", 1, 0)], tree=row_tree(3))
        self.assertEqual([world.cut(many=0, h=1), world.rise(h=1), world.stop(keep=3, h=1), world.house(h=1)], [None] * 4)
        self.assertEqual([world.tick(h=0) for _ in range(12)], [None] * 12)
        self.assertEqual([world.double(k=0), world.drop(k=0), world.carry(k=0), world.disk(h=0).text], [None] * 3 + [""])
        settle(world=world)
        self.assertEqual(world.write(text="rings", cell="bell", h=0), X)
        desk, reader = Desk(tree=Tree(1, [])), Reader()
        self.assertEqual((desk.do(line="tick 0"), desk.board(h=0)), (None, []))
        self.assertEqual((reader.follow(lines=[X, Z]), reader.forget(at=1), reader.read), ([X, Z], None, (X,)))

    def test_attributes_are_set_when_the_object_is_created(self):
        tree, disk = row_tree(3), Disk()
        house, world, desk = House(tree, 1, disk, 4), World(tree), Desk(tree)
        self.assertEqual((house.tree, house.number, house.life, house.book, house.stage), (tree, 1, 4, (), "risen"))
        self.assertEqual((house.era, house.known, house.waited, world.tree, type(desk.world)), (None, 0, 0, tree, World))
        self.assertIs(house.disk, disk)


class Values(unittest.TestCase):
    def test_judges_raise_nothing_and_tell_a_bool(self):
        trees = [Tree(1, []), row_tree(3), star_tree(16)]
        rows = {len(tree): [[] for _ in range(len(tree))] for tree in trees}
        for value in values_of_all_kinds():
            before = snapshot(value)
            answers = [judge(value) for judge in (is_cell, is_text, is_line, is_era, is_kinds)]
            for tree in trees:
                answers += [judge(tree, value) for judge in (is_script, is_rows, is_standing, is_letter, is_acts)]
                answers.append(is_explained(World(tree), value))
                answers += [is_standing_fault(tree, rows[len(tree)], value), value in tree]
                logs = [[X]] + [[] for _ in range(len(tree) - 1)]
                answers += [is_picture(tree, logs, value), is_plan(tree, logs, value), is_why_held(tree, logs, 0, (0, 0), value)]
                answers.append(is_paper(tree, logs, 0, (0, 0), (0, 0), value))
            self.assertLessEqual({type(answer) for answer in answers}, {bool})
            self.assertEqual(snapshot(value), before)

    def test_a_tuple_stands_for_a_list_and_never_the_other_way(self):
        tree = Tree(3, ((0, 1), (1, 2)))
        self.assertEqual(tree, row_tree(3))
        deeds = (("make", 0, "bell", "rings"), ("hand", 0, 1))
        self.assertEqual(run_plain(tree, deeds).rows(), run_plain(tree, list(deeds)).rows())
        self.assertIs(is_script(tree, [list(deed) for deed in deeds]), False)
        rows = ((X,), (X, Z), (Z,))
        lists = [list(row) for row in rows]
        self.assertEqual((is_rows(tree, rows), is_rows(tree, lists)), (True, True))
        self.assertEqual(script_to(tree, rows), script_to(tree, lists))
        self.assertEqual((goes_on(tree, lists, rows), goes_on(tree, rows, lists)), (True, True))
        self.assertIs(is_rows(tree, [[list(X)], [], []]), False)
        log = Log(Disk())
        log.put((X, Z))
        self.assertEqual(log.lines, (X, Z))

    def test_true_and_false_are_no_integers(self):
        tree = row_tree(3)
        self.assertEqual([is_line((flag, 0, "a", "")) for flag in (True, False)], [False, False])
        self.assertEqual([is_line((0, flag, "a", "")) for flag in (True, False)], [False, False])
        self.assertEqual([flag in tree for flag in (True, False)], [False, False])
        self.assertIs(is_script(tree, [("make", False, "a", "")]), False)
        self.assertIs(is_script(tree, [("hand", 0, True)]), False)
        self.assertIs(is_rows(tree, [[(False, 0, "a", "")], [], []]), False)
        self.assertIs(is_standing_fault(tree, [[(0, 1, "a", "")], [], []], ("own", False, 0)), False)
        self.assertIs(is_standing_fault(tree, [[(0, 1, "a", "")], [], []], ("own", 0, 0)), True)

    def test_arguments_are_not_changed(self):
        tree = row_tree(3)
        roads, lines, script = [(0, 1), (1, 2)], [X, Z], [("make", 0, "bell", "rings"), ("hand", 0, 1)]
        rows, later = [[X], [X], []], [[X], [X, Z], [Z]]
        arguments = [roads, lines, script, rows, later]
        before = snapshot(arguments)
        Tree(3, roads)
        Log(Disk()).put(lines)
        run_plain(tree, script)
        for call in (is_rows, is_standing, standing_fault, script_to):
            call(tree, rows)
        goes_on(tree, rows, later)
        is_standing_fault(tree, rows, [later])
        for call in (picture, logs_fit, held, keeps_all, plan, added, standings, held_slow):
            call(tree, rows)
        for call in (arrows, ahead, ahead_slow):
            call(tree, rows, 2)
        for call in (came_over, to_send):
            call(tree, lines, 0, 1, *([0] if call is to_send else []))
        self.assertEqual(snapshot(arguments), before)
        self.assertEqual(tree, row_tree(3))

    def test_objects_of_different_classes_are_not_equal(self):
        disk = Disk()
        objects = [row_tree(3), disk, Log(disk), Plain(row_tree(3)), House(row_tree(3), 0, Disk(), 1), World(row_tree(3)), Desk(row_tree(3))]
        objects += [Reader(), 3, "3: 0-1 1-2", (3, ((0, 1), (1, 2)))]
        for at, one in enumerate(objects):
            for place, other in enumerate(objects):
                if at != place:
                    self.assertIs(one == other, False)


class Limits(unittest.TestCase):
    def test_sixteen_houses_and_one_hundred_and_twenty_lines_are_answered_for(self):
        for tree in (row_tree(16), star_tree(16)):
            lines = [(number % 16, number // 16, "bell", "x" * 40) for number in range(120)]
            script = [("make", home, cell, text) for home, _, cell, text in lines]
            for house in range(16):
                script += [("hand", u, v) for u, v in flood(tree, house) for line in lines if line[0] == house]
            plain = run_plain(tree, script)
            rows = plain.rows()
            self.assertEqual([sorted(row) for row in rows], [sorted(lines)] * 16)
            self.assertIsNone(standing_fault(tree, rows))
            self.assertEqual(run_plain(tree, script_to(tree, rows)).rows(), rows)
            self.assertIs(goes_on(tree, [[] for _ in rows], rows), True)
            rows[15][-2:] = rows[15][:-3:-1]
            self.assertIs(is_standing_fault(tree, rows, standing_fault(tree, rows)), True)

    def test_numbers_of_twenty_digits_and_a_little_more(self):
        for number in (10 ** 20 - 1, 10 ** 21):
            line = (number, number, "bell", "")
            self.assertEqual(read_line(line_text(line)), line)
            log = Log(Disk())
            log.put([line])
            self.assertEqual(Log(log.disk).lines, (line,))
            disk = Disk()
            disk.put("abc")
            disk.fall(number)
            disk.lose(number)
            self.assertEqual(disk.text, "abc"[:number % 4])

    def test_a_disk_of_forty_thousand_signs(self):
        disk = Disk()
        disk.put("0000." * 8000)
        self.assertEqual(frames_in(disk.text), ([""] * 8000, 40000))
        self.assertEqual((Log(disk).lines, disk.text), ((), ""))


def flood(tree, house):
    """The roads along which all that a house makes comes to all others, in an order in which it can."""
    return [(way(tree, there, house)[1], there) for there in
            sorted(range(tree.houses), key=lambda goal: len(way(tree, house, goal))) if there != house]


if __name__ == "__main__":
    unittest.main()
