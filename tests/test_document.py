"""The examples of the document, all names of its interface, and one question asked by several roads."""

import ast
import importlib
import inspect
import pathlib

from skipcounts.again import worth_again
from skipcounts.binomials import row_value
from skipcounts.book import Book
from skipcounts.chains import chain, chain_of_finite, finite_of, holds, levels
from skipcounts.finites import Finite
from skipcounts.kepttexts import Kept, kept_count, kept_counts
from skipcounts.leastforms import least_form
from skipcounts.leastmachines import least_machine, rank
from skipcounts.machinesums import machine_of, sum_of
from skipcounts.means import mean
from skipcounts.powers import family_row, power_row
from skipcounts.primes import from_prime_form, prime_form, told_count
from skipcounts.printer import line_of
from skipcounts.products import product
from skipcounts.reader import sum_of_line
from skipcounts.readings import count, counts
from skipcounts.registers import machine_worth
from skipcounts.restsets import told_by
from skipcounts.rests import first_with, rest_set
from skipcounts.rings import seen_forms
from skipcounts.rules import done, led
from skipcounts.sayings import first_kept, parting_saying, saying_machine
from skipcounts.sums import Sum, from_worths, parting, plus, times, worths
from skipcounts.tables import power, table_of
from skipcounts.toldback import how_many_texts, text_back
from tests import support
from tests.test_language import LISTED, METHODS_LISTED

EXAMPLES = pathlib.Path(__file__).resolve().parent / "examples.txt"
# All arguments as the document writes them; a dot stands ahead of a method.
ARGUMENTS = """
texts is_text(value) is_alphabet(value) is_over(letters,value) is_ahead(one,other) text_number(letters,text)
    text_numbered(letters,number) texts_of(letters,size)
readings count(word,text) is_reading(word,text,value) reading(word,text,number) reading_number(word,text,places)
    used(word,text) counts(letters,depth,text)
sums Sum(terms) .Sum.terms() .Sum.degree() .Sum.worth(text) plus(one,other) times(number,total) within(total,letters)
    parting(one,other) parting_by(one,other,by) divisor(total) worths(letters,depth,total)
    from_worths(letters,depth,numbers)
differences front_part(total,word) back_part(total,word) summed(number,given) moved(total,text) unmoved(total,text)
exchanges changes(total,one,other) inner(total) turn_parting(total) kept_sums(letters,depth,pairs)
products product(one,other) chosen(total,many) quotient(one,other)
primes prime_parts(text) prime_words(letters,size) prime_form(total) from_prime_form(form)
    told_count(letters,numbers,word)
tables Table(letters,depth,numbers) .Table.letters() .Table.depth() .Table.numbers() .Table.number(word)
    table_of(letters,depth,signed) joined(one,other) undone(table) power(table,many) first_difference(one,other)
    root(table,many) greatest_root(table) table_round(table,by)
legal is_legal(table) from_primes(letters,depth,numbers) at_primes(table) commutator(word) commutator_form(table)
alike depth_alike(letters,most,one,other) twist(x,y,parts) twist_gap(x,y,parts) without_capitals(letters,depth,signed)
rules done(rules,text) rules_after(first,second) led(total,rules) rules_part(one,other,depth)
again worth_again(total,rules,text,many,by=None) again_row(total,rules) parting_again(one,other,rules,text)
    parting_row(one,other,choices,text) zero_paper(total,choices,text) is_zero_paper(total,choices,text,value)
    rules_growth(rules) again_since(total,rules,text,rest)
registers Machine(letters,start,tables,out) .Machine.letters() .Machine.start() .Machine.tables() .Machine.out()
    machine_worth(machine,text) counting_machine(letters,word) machine_plus(one,other) machine_product(one,other)
    machine_led(machine,letters,rules)
finites Finite(letters,moves,ends) .Finite.letters() .Finite.moves() .Finite.ends() lets(finite,text)
    machine_within(machine,finite)
partings parting_text(one,other,finite=None) is_agreeing_paper(one,other,finite,value)
    agreeing_paper(one,other,finite=None) parting_rest(one,other,by,finite=None) common_divisor(one,other,finite=None)
balances deciding_texts(machines,finite=None) balances(machines,finite=None) is_balance(machines,numbers,finite=None)
leastmachines rank(machine) tests(machine) row_at(machine,text) basis(machine) least_machine(machine)
    order_matters(machine)
machinesums machine_number(machine,word) sum_of(machine) no_sum_word(machine) machine_of(letters,total)
machinepowers parting_power(one,other,head,text,behind)
learners machine_from(letters,most,values)
risings worths_on(finite,total) rising(finite,total) is_rising(finite,total,value)
rests by_rest(total,number) rest_states(letters,sums,number) rests_taken(letters,sums,number)
    how_many_with(letters,sums,number,rests,many) rest_set(letters,total,number,rests)
    first_with(finite,total,number,rests)
restsets expansion(finite,depth) told_by(finite,prime) marks(finite,head,part,end) bar(finite,prime)
    is_bar(finite,prime,value) rest_parts(finite) is_rest_parts(finite,value)
binomials row_value(row,number) binomial_row(values) row_product(one,other) signs(row)
powers power_row(word,text) member(many,family,point) family_row(total,family) grid_value(many,grid,point)
    grids_part(many,one,other) family_grid(many,total,family) families_part(many,one,other,depth)
kepttexts Kept(pieces) .Kept.pieces() .Kept.length() written(kept) kept_cut(kept,low,high) kept_count(word,kept)
    kept_counts(letters,depth,kept) kept_part(one,other,depth) reached(word,kept,number)
    kept_reading(word,kept,number) kept_reading_number(word,kept,places)
readatall reads(depth,text) read_alike(depth,one,other) read_likeness(one,other) parting_word(one,other)
    steady_from(depth,head,part,tail)
leastforms ranks(text) can_go(depth,text) least_form(depth,text) steps(depth,one,other) are_steps(depth,value)
arches arches(letters,text) missing(letters,text) how_many_forms(letters,depth) form_numbered(letters,depth,number)
    form_number(letters,depth,text)
rings sight(machine) seen_forms(machine) blind_spot(machine) is_blind_spot(machine,value)
chains is_condition(value) holds(condition,text) parting_case(one,other) both_read(one,other) chain(condition)
    is_chain(value) chain_lets(lists,text) levels(condition) finite_of(letters,condition) chain_of_finite(machine)
toldback peeled(table,letter) how_many_texts(table) text_back(table,number) no_text_paper(table)
    is_no_text_paper(table,value) telling_depth(letters,text)
sayings is_saying(letters,value) keeps(letters,saying,text) capped_counts(letters,saying,text)
    saying_machine(letters,saying) first_kept(letters,saying) parting_saying(letters,one,other)
    never_paper(letters,saying) is_never_paper(letters,saying,value)
means mean(letters,total,size) means_part(letters,one,other) arranged_mean(total,text) unfair(total)
    below_zero(letters,total)
printer line_of(total)
reader sum_of_line(line) right_part(line)
book Book(text,sums) .Book.text() .Book.sums() .Book.worths() .Book.do(deed) .Book.undo() .Book.redo() .Book.log()
    .Book.copy() .Book.growth(deed) .Book.quiet(low,high) .Book.shortest_put(place,size) is_deed(book,value)
"""


def named():
    """Tuples of a module, a name and its arguments, as they stand in the text above."""
    module = None
    for word in ARGUMENTS.split():
        if "(" not in word:
            module = word
        else:
            name, _, rest = word.partition("(")
            yield module, name, rest[:-1]


class Examples(support.TestCase):
    def test_as_they_stand(self):
        names, told, checked = {}, None, 0
        for line in EXAMPLES.read_text(encoding="ascii").splitlines():
            if line.startswith("# "):
                self.assertEqual(told, ast.literal_eval(line[2:]), line)
                checked += 1
            elif line:
                try:
                    told = eval(line, names)
                except SyntaxError:
                    exec(line, names)
        self.assertEqual(checked, 73)

    def test_they_are_those_of_the_document(self):
        document = EXAMPLES.parent.parent.parent / "shared" / "DOC.md"
        if document.exists():
            text = document.read_text(encoding="utf-8")
            for line in EXAMPLES.read_text(encoding="ascii").splitlines():
                self.assertIn(line, text)


class Interface(support.TestCase):
    def test_names_and_arguments(self):
        seen = {}
        for module, name, arguments in named():
            owner = importlib.import_module("skipcounts." + module)
            if name.startswith("."):
                _, kind, name = name.split(".")
                owner = getattr(owner, kind)
                self.assertIn(name, vars(owner))
            given = getattr(owner, name)
            parameters = [str(each) for each in inspect.signature(given).parameters.values()]
            if not inspect.isclass(given):
                self.assertTrue(inspect.isfunction(given))
            if inspect.isclass(owner):
                parameters = parameters[1:]
                seen.setdefault((module, owner.__name__), []).append(name)
            else:
                self.assertEqual(given.__module__, "skipcounts." + module)
                seen.setdefault(module, []).append(name)
            self.assertEqual(",".join(parameters).replace(" ", ""), arguments, (module, name))
        for module, names in LISTED.items():
            if module != "errors":
                self.assertEqual(sorted(names.split()), sorted(seen[module]), module)
        for module, kind, methods in METHODS_LISTED:
            self.assertEqual(sorted(methods.split()), sorted(seen[(module, kind)]))
        self.assertEqual(len(LISTED), 38)


class Roads(support.TestCase):
    def test_worths_of_a_sum(self):
        """A sum told by its terms, line, worths, machine, prime form and table."""
        chance = support.chance(9401)
        for _ in range(40):
            total = support.some_sum(chance, "ab", 4, 3)
            ways = [total, sum_of_line(line_of(total)), from_worths("ab", 3, worths("ab", 3, total)),
                    sum_of(machine_of("ab", total)), from_prime_form(prime_form(total)),
                    led(led(total, [("a", "b"), ("b", "a")]), [("a", "b"), ("b", "a")]),
                    product(total, Sum([("", 1)])), plus(times(2, total), times(-1, total))]
            for other in ways:
                self.assertEqual(other, total)
                self.assertIsNone(parting(other, total))
            self.assertEqual(least_machine(machine_of("ab", total)), machine_of("ab", total))
            for text in support.all_words("ab", 4):
                table = table_of("ab", 3, text)
                worth = support.plain_worth(total, text)
                self.assertEqual(total.worth(text), worth)
                self.assertEqual(machine_worth(machine_of("ab", total), text), worth)
                self.assertEqual(sum(number * table.number(word) for word, number in total.terms()), worth)
                self.assertEqual(Book(text, [total]).worths(), [worth])
            self.assertEqual(rank(machine_of("ab", total)), len(machine_of("ab", total).start()))

    def test_counts_in_a_text_taken_many_times(self):
        chance = support.chance(9402)
        for _ in range(40):
            word, text = [support.some_text(chance, "ab", chance.randint(0, 3)) for _ in "ab"]
            many = chance.randint(0, 5)
            answers = [count(word, text * many), row_value(power_row(word, text), many),
                       kept_count(word, Kept([(text, many)])), power(table_of("ab", 3, text), many).number(word),
                       row_value(family_row(Sum([(word, 1)]), [(text, (0, 1))]), many),
                       Sum([(word, 1)]).worth(text * many),
                       worth_again(led(Sum([(word, 1)]), [("c", text)]), [("c", "c")], "c" * many, 0)]
            self.assertEqual(answers, [support.plain_count(word, text * many)] * len(answers))
            self.assertEqual(kept_counts("ab", 3, Kept([(text, many)])), counts("ab", 3, text * many))
            self.assertEqual(told_count("ab", [count(prime, text) for prime in ["a", "b", "ab", "aab", "abb"]], word),
                             count(word, text))

    def test_texts_told_back(self):
        for text in support.all_words("ab", 5):
            table = table_of("ab", 2, text)
            texts = [text_back(table, number) for number in range(how_many_texts(table))]
            self.assertIn(text, texts)
            self.assertEqual(texts, [own for own in support.all_words("ab", 5) if table_of("ab", 2, own) == table])
            self.assertEqual(done([("a", "b"), ("b", "a")], done([("a", "b"), ("b", "a")], text)), text)

    def test_sets_of_texts(self):
        """Sets told by conditions, by sayings, by rests of sums and by finite machines."""
        read, saying = ("reads", "ab"), ("least", "ab", 1)
        self.assertEqual(finite_of("ab", read), saying_machine("ab", saying))
        self.assertIsNone(parting_saying("ab", saying, ("not", ("is", "ab", 0))))
        self.assertEqual(chain_of_finite(saying_machine("ab", saying)), chain(read))
        self.assertEqual(first_kept("ab", saying), levels(read)[0])
        depth, forms = seen_forms(finite_of("ab", read))
        for text in support.all_words("ab", 5):
            self.assertEqual(holds(read, text), least_form(depth, text) in forms)
        for total, by in [(Sum([("ab", 1)]), 2), (Sum([("aa", 1), ("b", 2)]), 3)]:
            for rest in range(by):
                finite = saying_machine("ab", ("rest", total, by, rest))
                self.assertEqual(finite, rest_set("ab", total, by, [rest]))
                told = told_by(finite, by)
                for text in support.all_words("ab", 5):
                    self.assertEqual(told.worth(text) % by, int(total.worth(text) % by == rest))
                self.assertEqual(first_kept("ab", ("rest", total, by, rest)),
                                 first_with(Finite("ab", [[0, 0]], [0]), total, by, [rest]))

    def test_means_by_listing_worths(self):
        chance = support.chance(9403)
        for _ in range(20):
            total = support.some_sum(chance, "ab", 3, 2)
            for size in range(4):
                every = worths("ab", 3, total)[2 ** size - 1:2 ** (size + 1) - 1]
                over, by = mean("ab", total, size)
                self.assertEqual(over * len(every), sum(every) * by)
