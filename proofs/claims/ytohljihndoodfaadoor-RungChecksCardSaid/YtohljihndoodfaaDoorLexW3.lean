/-
  In a seat whose program has of lex the names alone: what layer 2's texts take of lex's contracts.
-/
import Derived.Test.YtohljihndoodfaaDoorNmA
