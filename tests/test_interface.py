"""Promises 3 and 4: names, arguments and places of the interface; the errors."""

import importlib
import inspect
import unittest

from linklines import errors
from tests.tools import any_objects

FUNCTIONS = """
programs: linked(store, line); links(store, line)
stands: stand(store, line); outcome(store, line); stands(store); stand_behind(store, number, name); outcomes(store)
stands: least_line(store, ahead)
alikelines: lines_part(store, one, other); kinds(store); are_sound(store, thing); needless(store)
alikelines: line_that_needs(store, name)
places: places_part(store, one, other); first_led(store, line); exchanges(store, one, other)
places: are_exchanges(store, one, other, thing); pair_against(store, one, other)
orders: orders_part(store, names); order_that_links(store, names); how_many_link(store, names)
mains: came(store, row, wants, has); face(store, row, wants, has); first_unclear(store, row)
chains: chains(store, row); word_of(store, row, chain); places_of(store, row, chain)
rows: rows_part(store, one, other); unsafe_main(store, row); once(store, names); ring_against(store, names)
archives: archives_part(store, one, other, is_open); silent_wants(store, name)
archives: heard_main(store, name, member, want); least_archive(store, name, is_open)
companies: row(store, needs, company); bound(store, needs, company)
aheads: surely_there(store, needs); surely_ahead(store, needs, one, other); company_ahead(store, needs, one, other)
aheads: first_ones(store, needs, name, there=()); company_for(store, needs, name, there, thing)
meetings: binding(store, needs, reference); meeting(store, needs, one, other)
meetings: company_where(store, needs, one, other, is_met); promises(store, needs, name, there, library)
merging: merged(libraries); bar(libraries)
releases: fits(releases, library, number, other); unsteady(releases)
states: is_good(releases, state); good_above(releases, state); good_below(releases, state)
states: upgraded(releases, state, goals)
bundles: bundles(releases, state, goal); ahead(releases, state, goal); is_order(releases, state, goal, thing)
bundles: how_many_orders(releases, state, goal)
links: is_link(releases, thing); why(releases, state, goal, number); is_why(releases, state, goal, number, thing)
clients: served(releases, state, client); stands_for(releases, library, newer, elder)
clients: lasting(releases, state, client); least_nodes(changes); apart(changes)
deeds: many_processes(world); bindings(world, library, name); gone_row(world); stranded_row(world)
steady: unsteady_rows(world, library, name); parting_row(one, other)
weaves: woven(world, rows); race(world, rows)
wishes: wish_ring(wishes); first_order(wishes); many_orders(wishes); sure_pairs(wishes); least_more(wishes, order)
wishes: least_numbers(wishes); longest_chain(wishes); breaking_line(wishes, numbers)
early: early_row(starts); late_row(starts); ahead_row(starts, one, other)
uses: first_uses(uses, word); half_met(uses)
patterns: is_pattern(thing); matches(pattern, name)
scripts: laid(script, line); laid_program(script, program); put_in(script, number, rule)
winners: file_classes(script); name_classes(script); first_won(script, number); first_untaken(script)
layings: are_alike(one, other); parting(one, other); as_others(one, other); first_elsewhere(one, other)
layings: can_be_left_out(script, numbers); left_out(script); bars_out(script, numbers); places_for(script, rule)
layings: takes_from(script, number, rule)
plans: is_layout(plan, sizes, thing); earliest(plan, sizes); shortest(plan, sizes)
pairs: best_pairs(plan, sizes); layout_with(plan, sizes, file, memory); best_order(plan, sizes)
reaches: reaches(plan, one, other); far_sizes(plan, one, other, far); bounds_hold(plan, bounds, one, other, far)
reaches: greatest_bounds(plan, one, other, far); steady(plan); least_moves(plan, word)
sheets: sheet_of(store, line)
folding: lots(sheet); are_lots(sheet, thing); unlike(sheet, one, other); folded(sheet, apart=())
folding: sheet_folded(sheet, apart=())
keeping: rules_of(sheet); kept(rules, roots); steps(rules, roots, section); keepers(rules, names, section)
keeping: blockers(rules, names, section); parts_by_order(sheet, apart, roots)
images: anew(old, new)
changes: face_of(obj); growing(changes); moving(changes); least_growths(changes, who, number); unseen(changes)
changes: filled_anew(changes)
patches: patched(old, patch); cost(patch, prices); least_patch(old, new, prices); floor(old, new, prices)
patches: is_floor(old, new, prices, thing)
exchanged: first_seen(store, file, obj)
strings: least_strings(words); holds_all(table, words); grown_strings(words); first_dear(words)
nametables: numbers_at(table, length); false_passes(table, length); mean_steps(table, length); first_false(table)
nametables: most_steps(table); parted_by(one, other); least_buckets(words, factor, modulo, most)
slottables: fewest_tables(wants, most); are_crowds(wants, most, thing)
rowforms: file_row(thing); read_row(row); next_bytes(row); shortest_end(row); unseen_swap(row)
holes: fills(hole, thing)
housetexts: write_house(house); read_house(text)
"""

CLASSES = """
objects: Object(names, wants=(), asks=(), sections=()): names() wants() asks() sections()
objects: Archive(members): members()
objects: Library(tells, wants=(), asks=(), needs=(), own_first=False, stays=False)\
: tells() wants() asks() needs() own_first() stays()
stores: Store(files): files() file(name)
releases: Releases(libraries): libraries() release(library,number)
worlds: World(libraries, start, rule): libraries() start() rule() group(name)
processes: Process(world, row=()): more(row) answers() there() searched() opened() slots()
wishes: Wishes(words, pairs): words() pairs()
starts: Starts(world, begins, ends): world() begins() ends()
courses: Course(starts, row=()): events() process() more(row)
uses: Uses(calls): calls()
scripts: Script(rules): rules() taker(file,name)
plans: Plan(page, parts): page() parts()
sheets: Sheet(bodies): bodies() body(name)
keeping: Rules(sections, rules): sections() rules()
images: Image(program): sections() place(name) cells()
changes: Changes(program, rows):
nametables: NameTable(words, factor, modulo, buckets, spots): find(word) words()
holes: Hole(sorts, others=True): sorts() others()
houses: House(): put(name,kind,thing) drop(name) names() held(name) store() program(name) told(name) bytes_of(name)\
 verdicts(name) meanings_of(name,word) deciders(name) leaving_open(name) made() mends(name) undo() again() copy()\
 trial(work) __len__()
"""

ERRORS = """
BadNames(name), BadWants(index), BadAsks(index), BadSections(index), BadSpot(name), BadMembers(index), BadTells(index),
BadNeeds(index), BadMark(thing), BadFiles(name), NoFile(name), BadLine(index), Twice(name), Missing(lacking),
NotTaken(who), BadNumber(number), BadPick(index), BadRow(index), BadHas(index), NotClear(name), BadChain(thing),
NoArchive(name), NoMember(member), NoWant(want), Lacking(word), BadPlaces(index), BadCompany(index),
BadReference(thing), NoLibrary(name), BadName(name), BadThere(index), NoRow(), BadList(index), BadReleases(name),
NoRelease(number), Unsteady(), BadState(thing), BadGoals(name), NotGood(state), NotAbove(library), NoBundle(number),
BadClient(index), NotServed(index), BadChange(index), BadLibraries(name), BadStart(index), BadKeeping(thing),
BadDeed(index), NoSlot(name), UnlikeWorlds(), BadRows(index), BadWords(index), BadWishes(index), Ringed(ring),
BadOrder(thing), BadNumbers(thing), BadBegins(name), BadEnds(name), BadUses(name), BadPattern(thing), BadRule(index),
BadInput(thing), BadInputs(index), Untaken(index), NoRule(number), BadRules(index), BadPage(thing), BadPart(index),
BadSizes(index), NoPart(word), NotBehind(one, other), BadFar(far), BadBody(name), NoBody(name), BadApart(index),
BadRoots(index), NoName(name), BadChanges(thing), NoSection(who, number), BadRun(index), BadPrices(index),
BadCells(index), NoObject(name), BadObject(thing), BadTable(thing), BadWord(word), BadLength(length), Full(index),
NoSort(thing), TooLarge(), BadBytes(thing), BadByte(index), BadHole(word), BadKind(kind), BadThing(thing),
Lacks(name), NotOf(name), Needed(name, by), HasHole(name), NotWanted(word), BadText(index), Nothing()
"""


def listed_errors():
    told = []
    for entry in ERRORS.replace("\n", " ").split("),"):
        name, rest = entry.strip().rstrip(")").split("(")
        told.append((name, [word.strip() for word in rest.split(",") if word.strip()]))
    return told


class TestInterface(unittest.TestCase):
    def test_functions_stand_in_their_files_with_their_arguments(self):
        for line in FUNCTIONS.strip().splitlines():
            file, rest = line.split(": ", 1)
            module = importlib.import_module("linklines." + file)
            for entry in rest.split("; "):
                function = getattr(module, entry.split("(")[0])
                self.assertEqual(function.__module__, "linklines." + file)
                self.assertTrue(inspect.isfunction(function))
                self.assertEqual(str(inspect.signature(function)), entry[entry.index("("):])

    def test_classes_have_their_methods_themselves(self):
        for line in CLASSES.strip().splitlines():
            file, entry, methods = (line + " ").split(": ")
            made = getattr(importlib.import_module("linklines." + file), entry.split("(")[0])
            self.assertEqual(made.__module__, "linklines." + file)
            self.assertEqual(str(inspect.signature(made)), entry[entry.index("("):])
            if made.__name__ not in ("Course", "Changes"):
                self.assertIn("__eq__", vars(made))
            for method in methods.split():
                name, rest = method.rstrip(")").split("(")
                found = inspect.signature(vars(made)[name])
                self.assertEqual(list(found.parameters), ["self", *[word for word in rest.split(",") if word]])

    def test_the_program_of_a_line_has_its_methods_itself(self):
        made = importlib.import_module("linklines.programs").Program
        for name in ("taken", "meanings", "libraries", "commons", "sections"):
            self.assertEqual(list(inspect.signature(vars(made)[name]).parameters), ["self"])
        for name in ("object_of", "reason"):
            self.assertEqual(list(inspect.signature(vars(made)[name]).parameters), ["self", "who"])
        self.assertIn("__eq__", vars(made))


class TestErrors(unittest.TestCase):
    def test_all_errors_are_direct_subclasses_of_the_base(self):
        self.assertEqual(errors.LinkError.__bases__, (ValueError,))
        self.assertEqual(len(listed_errors()), 102)
        for name, _ in listed_errors():
            made = getattr(errors, name)
            self.assertEqual(made.__bases__, (errors.LinkError,))
            self.assertEqual(made.__module__, "linklines.errors")

    def test_errors_keep_the_very_objects_that_they_are_made_with(self):
        for name, words in listed_errors():
            for thing in any_objects():
                things = [thing if at == 0 else [thing] for at in range(len(words))]
                made = getattr(errors, name)
                for error in (made(*things), made(**dict(zip(words, things)))):
                    for word, kept in zip(words, things):
                        self.assertIs(getattr(error, word), kept)

    def test_errors_can_be_caught_as_the_base_and_as_value_errors(self):
        with self.assertRaises(errors.LinkError):
            raise errors.NoRow()
        with self.assertRaises(ValueError):
            raise errors.NotBehind("one", "other")
