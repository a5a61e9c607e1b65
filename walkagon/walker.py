"""A polygon that walks and remembers where it was."""

from walkagon.errors import TooFew, UnknownField
from walkagon.reach.reasons import check_reachable
from walkagon.shapes.polygons import Polygon
from walkagon.shifts.language import script_shift


class Walker:
    """A polygon that walks; `busy` is the name of the method that is running, or None."""

    def __init__(self, polygon):
        self.busy = None
        self._polygon = polygon
        self._earlier = []

    @classmethod
    def at(cls, text):
        """A walker whose polygon has this written form."""
        polygon = Polygon.parse(text)
        return cls(polygon)

    @property
    def polygon(self):
        """The current polygon."""
        return self._polygon

    @property
    def history(self):
        """The tuple of the earlier polygons, the oldest first."""
        return tuple(self._earlier)

    def flip(self, *joints):
        """Flip the joints in order; returns the current polygon."""
        self.busy = "flip"
        try:
            polygon = self._polygon.flipped(*joints)
            return self._walk([polygon] if joints else [])
        finally:
            self.busy = None

    def run(self, *scripts):
        """Run the scripts in order, or none of them if one is wrong; returns the current polygon."""
        self.busy = "run"
        try:
            polygons = []
            polygon = self._polygon
            for script in scripts:
                polygon = script_shift(len(polygon), script).apply(polygon)
                polygons.append(polygon)
            return self._walk(polygons)
        finally:
            self.busy = None

    def walk_to(self, goal):
        """Flip joints until the goal is the current polygon; returns it."""
        self.busy = "walk_to"
        try:
            check_reachable(self._polygon, goal)
            return self._walk([goal])
        finally:
            self.busy = None

    def undo(self, *, count=1):
        """Return to the polygon so many entries back in the history, which loses these entries."""
        self.busy = "undo"
        try:
            entries = len(self._earlier)
            if count > entries:
                raise TooFew(entries)
            if count > 0:
                self._polygon = self._earlier[entries - count]
                self._earlier = self._earlier[:entries - count]
            return self._polygon
        finally:
            self.busy = None

    def describe(self, **wanted):
        """A dictionary with an entry for each keyword whose value is True, in the order of the keywords."""
        self.busy = "describe"
        try:
            polygon = self._polygon
            fields = {"joint_count": len(polygon), "position": polygon.points[0], "stick_vectors": polygon.sticks,
                      "area": polygon.double_area, "entries": len(self._earlier)}
            for name in wanted:
                if name not in fields:
                    raise UnknownField(name)
            return {name: fields[name] for name in wanted if wanted[name]}
        finally:
            self.busy = None

    def _walk(self, polygons):
        """Become each of the polygons in order; returns the last one, or the current one if there is none."""
        for polygon in polygons:
            self._earlier.append(self._polygon)
            self._polygon = polygon
        return self._polygon

    def __len__(self):
        return len(self._earlier)
