"""Every error of the program; each keeps what it is made with."""

# Bodies of one line: all errors have to stand in this file, which may not be longer than 399 lines.


class LinkError(ValueError):
    """The base of them all."""

class BadNames(LinkError):
    def __init__(self, name): self.name = name

class BadWants(LinkError):
    def __init__(self, index): self.index = index

class BadAsks(LinkError):
    def __init__(self, index): self.index = index

class BadSections(LinkError):
    def __init__(self, index): self.index = index

class BadSpot(LinkError):
    def __init__(self, name): self.name = name

class BadMembers(LinkError):
    def __init__(self, index): self.index = index

class BadTells(LinkError):
    def __init__(self, index): self.index = index

class BadNeeds(LinkError):
    def __init__(self, index): self.index = index

class BadMark(LinkError):
    def __init__(self, thing): self.thing = thing

class BadFiles(LinkError):
    def __init__(self, name): self.name = name

class NoFile(LinkError):
    def __init__(self, name): self.name = name

class BadLine(LinkError):
    def __init__(self, index): self.index = index

class Twice(LinkError):
    def __init__(self, name): self.name = name

class Missing(LinkError):
    def __init__(self, lacking): self.lacking = lacking

class NotTaken(LinkError):
    def __init__(self, who): self.who = who

class BadNumber(LinkError):
    def __init__(self, number): self.number = number

class BadPick(LinkError):
    def __init__(self, index): self.index = index

class BadRow(LinkError):
    def __init__(self, index): self.index = index

class BadHas(LinkError):
    def __init__(self, index): self.index = index

class NotClear(LinkError):
    def __init__(self, name): self.name = name

class BadChain(LinkError):
    def __init__(self, thing): self.thing = thing

class NoArchive(LinkError):
    def __init__(self, name): self.name = name

class NoMember(LinkError):
    def __init__(self, member): self.member = member

class NoWant(LinkError):
    def __init__(self, want): self.want = want

class Lacking(LinkError):
    def __init__(self, word): self.word = word

class BadPlaces(LinkError):
    def __init__(self, index): self.index = index

class BadCompany(LinkError):
    def __init__(self, index): self.index = index

class BadReference(LinkError):
    def __init__(self, thing): self.thing = thing

class NoLibrary(LinkError):
    def __init__(self, name): self.name = name

class BadName(LinkError):
    def __init__(self, name): self.name = name

class BadThere(LinkError):
    def __init__(self, index): self.index = index

class NoRow(LinkError):
    pass

class BadList(LinkError):
    def __init__(self, index): self.index = index

class BadReleases(LinkError):
    def __init__(self, name): self.name = name

class NoRelease(LinkError):
    def __init__(self, number): self.number = number

class Unsteady(LinkError):
    pass

class BadState(LinkError):
    def __init__(self, thing): self.thing = thing

class BadGoals(LinkError):
    def __init__(self, name): self.name = name

class NotGood(LinkError):
    def __init__(self, state): self.state = state

class NotAbove(LinkError):
    def __init__(self, library): self.library = library

class NoBundle(LinkError):
    def __init__(self, number): self.number = number

class BadClient(LinkError):
    def __init__(self, index): self.index = index

class NotServed(LinkError):
    def __init__(self, index): self.index = index

class BadChange(LinkError):
    def __init__(self, index): self.index = index

class BadLibraries(LinkError):
    def __init__(self, name): self.name = name

class BadStart(LinkError):
    def __init__(self, index): self.index = index

class BadKeeping(LinkError):
    def __init__(self, thing): self.thing = thing

class BadDeed(LinkError):
    def __init__(self, index): self.index = index

class NoSlot(LinkError):
    def __init__(self, name): self.name = name

class UnlikeWorlds(LinkError):
    pass

class BadRows(LinkError):
    def __init__(self, index): self.index = index

class BadWords(LinkError):
    def __init__(self, index): self.index = index

class BadWishes(LinkError):
    def __init__(self, index): self.index = index

class Ringed(LinkError):
    def __init__(self, ring): self.ring = ring

class BadOrder(LinkError):
    def __init__(self, thing): self.thing = thing

class BadNumbers(LinkError):
    def __init__(self, thing): self.thing = thing

class BadBegins(LinkError):
    def __init__(self, name): self.name = name

class BadEnds(LinkError):
    def __init__(self, name): self.name = name

class BadUses(LinkError):
    def __init__(self, name): self.name = name

class BadPattern(LinkError):
    def __init__(self, thing): self.thing = thing

class BadRule(LinkError):
    def __init__(self, index): self.index = index

class BadInput(LinkError):
    def __init__(self, thing): self.thing = thing

class BadInputs(LinkError):
    def __init__(self, index): self.index = index

class Untaken(LinkError):
    def __init__(self, index): self.index = index

class NoRule(LinkError):
    def __init__(self, number): self.number = number

class BadRules(LinkError):
    def __init__(self, index): self.index = index

class BadPage(LinkError):
    def __init__(self, thing): self.thing = thing

class BadPart(LinkError):
    def __init__(self, index): self.index = index

class BadSizes(LinkError):
    def __init__(self, index): self.index = index

class NoPart(LinkError):
    def __init__(self, word): self.word = word

class NotBehind(LinkError):
    def __init__(self, one, other): self.one, self.other = one, other

class BadFar(LinkError):
    def __init__(self, far): self.far = far

class BadBody(LinkError):
    def __init__(self, name): self.name = name

class NoBody(LinkError):
    def __init__(self, name): self.name = name

class BadApart(LinkError):
    def __init__(self, index): self.index = index

class BadRoots(LinkError):
    def __init__(self, index): self.index = index

class NoName(LinkError):
    def __init__(self, name): self.name = name

class BadChanges(LinkError):
    def __init__(self, thing): self.thing = thing

class NoSection(LinkError):
    def __init__(self, who, number): self.who, self.number = who, number

class BadRun(LinkError):
    def __init__(self, index): self.index = index

class BadPrices(LinkError):
    def __init__(self, index): self.index = index

class BadCells(LinkError):
    def __init__(self, index): self.index = index

class NoObject(LinkError):
    def __init__(self, name): self.name = name

class BadObject(LinkError):
    def __init__(self, thing): self.thing = thing

class BadTable(LinkError):
    def __init__(self, thing): self.thing = thing

class BadWord(LinkError):
    def __init__(self, word): self.word = word

class BadLength(LinkError):
    def __init__(self, length): self.length = length

class Full(LinkError):
    def __init__(self, index): self.index = index

class NoSort(LinkError):
    def __init__(self, thing): self.thing = thing

class TooLarge(LinkError):
    pass

class BadBytes(LinkError):
    def __init__(self, thing): self.thing = thing

class BadByte(LinkError):
    def __init__(self, index): self.index = index

class BadHole(LinkError):
    def __init__(self, word): self.word = word

class BadKind(LinkError):
    def __init__(self, kind): self.kind = kind

class BadThing(LinkError):
    def __init__(self, thing): self.thing = thing

class Lacks(LinkError):
    def __init__(self, name): self.name = name

class NotOf(LinkError):
    def __init__(self, name): self.name = name

class Needed(LinkError):
    def __init__(self, name, by): self.name, self.by = name, by

class HasHole(LinkError):
    def __init__(self, name): self.name = name

class NotWanted(LinkError):
    def __init__(self, word): self.word = word

class BadText(LinkError):
    def __init__(self, index): self.index = index

class Nothing(LinkError):
    pass
