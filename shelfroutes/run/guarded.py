"""Guarded engines: engines of right schemes, with a certificate that shows this."""

from shelfroutes.check.local import certificate_of
from shelfroutes.errors import Wrong
from shelfroutes.plan.plans import Plan
from shelfroutes.plan.schemes import Scheme
from shelfroutes.query.queries import Query
from shelfroutes.run.engine import Engine


class Guard:
    """What asks schemes for a certificate."""

    @staticmethod
    def check(scheme):
        """A certificate of a right scheme."""
        certificate = certificate_of(scheme)
        if certificate[0] == "counterexample":
            raise Wrong(certificate)
        return certificate


class GuardedEngine(Engine, Guard):
    """An engine of a right scheme."""

    def __init__(self, scheme):
        super().__init__(scheme)
        self.certificate = Guard.check(scheme)

    def twin(self):
        """An independent copy, guarded too."""
        # A right scheme for which a certificate is found at once: that of this engine is known already.
        made = GuardedEngine(_smallest_scheme())
        made._follow(self)
        made.certificate = self.certificate
        return made


def _smallest_scheme():
    query = Query.of({"a": ("a",)}, (), {"a": ("core", "a")})
    plan = Plan({("add", "a"): ((("emit",),),), ("remove", "a"): ((("emit",),),)})
    return Scheme(query, stores={}, plans={"a": plan}, first="a")
