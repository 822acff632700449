/- What lex.Words answers. -/
import Derived.Test.YthimmohbedaimaaDoorLyG
namespace Go.Proofs.YthimmohbedaimaaDoor.Gl
open Go.RowKit

theorem lexC : LexC where
  long := fun s w _ h hs => words_long s w h hs
  good := fun s a w hS hs h => (words_at s a none w hS hs h).mono fun e w' ⟨v, c, p, k, ws, he, ha, ho, hb⟩ => by
    rcases ha with ⟨_, rfl, rfl, rfl, rfl⟩ | ⟨h, _⟩
    · rw [List.length_map] at ho
      exact ⟨v, he, ho, hb⟩
    · cases h
  bad := fun s a c p w hS hs h => (words_at s a (some (c, p)) w hS hs h).mono fun e w' ⟨v, c', p', k, ws, he, ha, ho, hb⟩ => by
    rcases ha with ⟨h, _⟩ | ⟨h, rfl, rfl⟩
    · cases h
    · cases h
      exact ⟨v, he, ho, hb⟩
end Go.Proofs.YthimmohbedaimaaDoor.Gl
