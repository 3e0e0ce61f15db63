/- The library, laid over this dump (see wip/journal/shelf). -/
import Derived.Test.YtdoljggaoidljaaGreatShelfo
