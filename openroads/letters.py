"""Letters."""

from openroads.atoms import atom_form
from openroads.errors import BadAtom, BadForm, BadKey, BadText
from openroads.forms import KEYS, exchanged, first_fault, forms_in
from openroads.formtexts import form_text, text_form


class Letter:
    """A letter; it never changes."""

    def __init__(self, atom):
        # The package itself also passes the tuple of any form: an operator may make a letter only in this way.
        shape = atom if isinstance(atom, tuple) else atom_form(atom)
        if shape is None:
            raise BadAtom(atom)
        self.shape = shape

    @staticmethod
    def of(form):
        """The letter with this form; BadForm with the path of the first part that is no form."""
        path = first_fault(form)
        if path is not None:
            raise BadForm(path)
        return Letter(form)

    @staticmethod
    def read(text):
        """The letter with this text; BadText(1) if there is none."""
        form = text_form(text)
        if form is None:
            raise BadText(1)
        return Letter(form)

    def form(self):
        """The form: nested tuples."""
        return self.shape

    def written(self):
        """The text of the letter."""
        return form_text(self.shape)

    def unknowns(self):
        """The ascending list of the unknowns in the letter, each once."""
        return sorted(set([part[1] for part in forms_in(self.shape) if part[0] == "unknown"]))

    def names(self):
        """The ascending list of the names in the letter, each once."""
        return sorted(set([part[1] for part in forms_in(self.shape) if part[0] == "name"]))

    def filled(self, filling):
        """The letter in which the unknowns that the filling has are replaced by its letters, all at once."""
        return Letter(exchanged(self.shape, {("unknown", unknown): filling[unknown].form() for unknown in filling}))

    def __add__(self, other):
        """The pair."""
        if not isinstance(other, Letter):
            return NotImplemented
        return Letter(("pair", self.shape, other.shape))

    def __mul__(self, other):
        """The seal of this letter by a key."""
        if not isinstance(other, Letter):
            return NotImplemented
        return Letter(("seal", self.shape, other.shape))

    def __xor__(self, other):
        """The lock of this letter by an open or own key; BadKey for another letter."""
        if not isinstance(other, Letter):
            return NotImplemented
        if other.shape[0] not in KEYS:
            raise BadKey(other)
        return Letter(("lock", self.shape, other.shape))

    def __invert__(self):
        """The mark."""
        return Letter(("mark", self.shape))

    def __pos__(self):
        """The open key."""
        return Letter(("open", self.shape))

    def __neg__(self):
        """The own key."""
        return Letter(("own", self.shape))

    def __eq__(self, other):
        return isinstance(other, Letter) and self.shape == other.shape

    def __lt__(self, other):
        if not isinstance(other, Letter):
            return NotImplemented
        return self.shape < other.shape

    def __le__(self, other):
        if not isinstance(other, Letter):
            return NotImplemented
        return self.shape <= other.shape

    def __gt__(self, other):
        if not isinstance(other, Letter):
            return NotImplemented
        return self.shape > other.shape

    def __ge__(self, other):
        if not isinstance(other, Letter):
            return NotImplemented
        return self.shape >= other.shape

    def __contains__(self, x):
        """Whether a letter is a part of this one, which is a part of itself."""
        return isinstance(x, Letter) and x.shape in forms_in(self.shape)

    def __len__(self):
        """How many forms stand in the form, each as often as it stands."""
        return len(forms_in(self.shape))
