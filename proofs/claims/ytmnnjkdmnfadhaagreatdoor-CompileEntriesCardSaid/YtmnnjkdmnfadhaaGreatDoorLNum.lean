/- Numbers: all of it is ANum; by-name template. -/
import Derived.Test.YtmnnjkdmnfadhaaGreatDoorANum
