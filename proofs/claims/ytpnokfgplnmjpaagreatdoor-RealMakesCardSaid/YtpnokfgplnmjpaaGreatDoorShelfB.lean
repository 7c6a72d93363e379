/-
  What the shelf lays of strings.Repeat: it stands with the others.
-/
import Derived.Test.YtpnokfgplnmjpaaGreatDoorShelf
