"""Parts of functions, and the products whose words they are."""

from stacksamples.bodies import bodies_within, names_in, net_of, word_around
from stacksamples.errors import InvalidName, InvalidProducts, InvalidWord
from stacksamples.programs import check_name, check_program, check_word, is_name

MOST_NAMES_IN_TUPLE = 5
MOST_ATOMS = 12
MOST_PRODUCTS = 12


def _is_atom(value):
    """Return whether any value is an atom."""
    if not isinstance(value, tuple):
        return is_name(value)
    if not 1 <= len(value) <= MOST_NAMES_IN_TUPLE or not all([is_name(name) for name in value]):
        return False
    return list(value) == sorted(set(value))


def _is_product(value):
    """Return whether any value is a product."""
    return isinstance(value, list) and len(value) <= MOST_ATOMS and all([_is_atom(atom) for atom in value])


def _check_products(products):
    """Raise InvalidProducts unless a value is products."""
    if not isinstance(products, list) or len(products) > MOST_PRODUCTS:
        raise InvalidProducts("not a list of products, or too long")
    if not all([_is_product(product) for product in products]):
        raise InvalidProducts("not only products")


def _check_word_of_names(word):
    """Raise InvalidWord unless a value is a word of any names."""
    if not isinstance(word, list) or not all([is_name(name) for name in word]):
        raise InvalidWord("not a list of names")


def is_atom_within(atom, other):
    """Return whether an atom has only words of another one."""
    if isinstance(other, str):
        return atom == other
    names = [atom] if isinstance(atom, str) else atom
    return all([name in other for name in names])


def _is_product_within(product, other):
    """Return whether a product has only words of another one."""
    taken = 0
    for atom in other:
        # A name takes one atom away at most, a tuple as many as are within it.
        most = 1 if isinstance(atom, str) else len(product)
        while taken < len(product) and most > 0 and is_atom_within(product[taken], atom):
            taken = taken + 1
            most = most - 1
    return taken == len(product)


def is_product_in(products, product):
    """Return whether a product has only words of products."""
    return any([_is_product_within(product, other) for other in products])


def product_text(product):
    """Return the text of a product."""
    atoms = [atom if isinstance(atom, str) else "{" + " ".join(atom) + "}" for atom in product]
    return " ".join(atoms) if atoms else "."


def _without_idle_atoms(product):
    """Return a product without the atoms beside a tuple that contains them."""
    kept = []
    for atom in product:
        while kept and isinstance(atom, tuple) and is_atom_within(kept[-1], atom):
            kept.pop()
        if not kept or isinstance(kept[-1], str) or not is_atom_within(atom, kept[-1]):
            kept.append(atom)
    return kept


def _normal_form(products):
    """Return the normal form of products."""
    by_text = {}
    for product in products:
        shorter = _without_idle_atoms(product)
        by_text[product_text(shorter)] = shorter
    found = []
    for text in sorted(by_text):
        others = [by_text[other] for other in by_text if other != text]
        if not is_product_in(others, by_text[text]):
            found.append(by_text[text])
    return found


def _products_of_item(item):
    """Return the products that an item of a body gives."""
    if isinstance(item, str):
        return [[item]]
    if item[0] == "loop":
        return [[tuple(sorted(set(names_in(item[1]))))]]
    return [product for body in bodies_within(item) for product in _products_of_body(body)]


def _products_of_body(body):
    """Return the products that a body gives, not yet in normal form."""
    found = [[]]
    for item in body:
        behind = _products_of_item(item)
        found = [product + more for product in found for more in behind]
    return found


def normal_products(body):
    """Return the normal form of the products whose words are the parts of a function with this body."""
    return _normal_form(_products_of_body(body))


def is_part(program, name, word):
    """Return whether a word is a part of a function."""
    check_program(program)
    check_name(program, name)
    check_word(program, word)
    # A word and the product of its names have the same longest word.
    return is_product_in(normal_products(program[name]), word)


def full_word(program, name, word):
    """Return a word of a function of which this word is a part, None if there is none."""
    check_program(program)
    check_name(program, name)
    check_word(program, word)
    return word_around(net_of(program[name]), word)


def products_of(program, name):
    """Return the normal form of products whose words are the parts of a function."""
    check_program(program)
    check_name(program, name)
    return normal_products(program[name])


def word_in(products, word):
    """Return whether a word is a word of products."""
    _check_products(products)
    _check_word_of_names(word)
    return is_product_in(products, word)


def includes(products, other):
    """Return whether each word of the products other is a word of products."""
    _check_products(products)
    _check_products(other)
    return all([is_product_in(products, product) for product in other])


def reduced(products):
    """Return the normal form of products."""
    _check_products(products)
    return _normal_form(products)


def once_between(products, callee):
    """Return the atoms of a product ahead of and behind a name between which it can stand once, but not twice.

    Return None if there are no such atoms.
    """
    for product in products:
        for at in range(len(product)):
            # Where a tuple stands for the call, it stands for two of them, too. So only names matter.
            if product[at] == callee and not is_product_in(products, product[:at] + [callee] + product[at:]):
                return product[:at], product[at + 1:]
    return None


def is_repeatable(program, name, callee):
    """Return whether a function is repeatable in another one that calls it."""
    check_program(program)
    check_name(program, name)
    if callee not in names_in(program[name]):
        raise InvalidName("not a function that this one calls")
    return once_between(normal_products(program[name]), callee) is None
