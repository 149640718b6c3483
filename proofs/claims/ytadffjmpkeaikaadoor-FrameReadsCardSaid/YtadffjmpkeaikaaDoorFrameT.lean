/-
  Rows of texts that were answered, and what a request out of a row of bytes is answered as, for layer 6.
-/
import Derived.Test.YtadffjmpkeaikaaDoorReplyRows
import Derived.Test.YtadffjmpkeaikaaDoorFrameTold
namespace Go.Proofs.YtadffjmpkeaikaaDoor.FrameT
open Go.RowKit Kit BytesIn ReplyMath ReplyT FrameMath
set_option linter.unusedVariables false
set_option maxRecDepth 100000

/-- A row of texts that was answered: in new memory, from block 'base' on. -/
def AnsS (base : Nat) (w : World) (v : Value) (L : List (List UInt8)) : Prop :=
  ∃ q c, v = .slice q L.length c ∧ Ss w q L ∧ (∀ a, q = some a → base ≤ a.block) ∧ L.length ≤ c ∧ c ≤ 9223372036854775807 ∧ (q = none → c = 0)
theorem AnsS.keep {base : Nat} {w w' : World} {v : Value} {L : List (List UInt8)} (h : AnsS base w v L) (hb : Below w.heap.size w w') : AnsS base w' v L := by
  obtain ⟨q, c, hv, hS, h1⟩ := h
  exact ⟨q, c, hv, hS.keep hb, h1⟩
theorem AnsS.base {b b' : Nat} {w : World} {v : Value} {L : List (List UInt8)} (h : AnsS b w v L) (hb : b' ≤ b) : AnsS b' w v L := by
  obtain ⟨q, c, hv, hS, h1, h2⟩ := h
  exact ⟨q, c, hv, hS, fun a ha => Nat.le_trans hb (h1 a ha), h2⟩
theorem ansS_none (base : Nat) (w : World) : AnsS base w (.slice none 0 0) [] := ⟨none, 0, rfl, fun h => absurd h (by simp), fun a h => (by cases h), by simp, by omega, fun _ => rfl⟩
theorem ownS_ans {base : Nat} {w : World} {v : Value} {L : List (List UInt8)} (h : OwnS base w v L) : AnsS base w v L := by
  obtain ⟨q, c, hv, hS, h1, h2, h3⟩ := h.ss
  refine ⟨q, c, hv, hS, fun a ha => ?_, h1, h2, h3⟩
  rcases h.2 with ⟨e, -⟩ | ⟨g, cap, cur, e, hg, -⟩
  · rw [e] at hv
    injection hv with e1
    rw [← e1] at ha
    cases ha
  · rw [e] at hv
    injection hv with e1
    rw [← e1] at ha
    injection ha with ha
    subst ha
    exact hg

/-- What a request is answered as: its words, how many bytes it takes, the error. -/
def wordsR : Rq → List (List UInt8)
  | .is ws _ => ws
  | _ => []
def takenR : Rq → Nat
  | .is _ k => k
  | _ => 0
def errR : Rq → Int
  | .bad => 10
  | _ => 0
theorem wordsR_len (l : List UInt8) : (wordsR (nextL l)).length ≤ 32 := by
  cases h : nextL l with
  | bad => simp [wordsR]
  | part => simp [wordsR]
  | is ws k => exact (nextL_is h).1
theorem takenR_le (l : List UInt8) : takenR (nextL l) ≤ l.length := by
  cases h : nextL l with
  | bad => simp [takenR]
  | part => simp [takenR]
  | is ws k => exact (nextL_is h).2.2.1
def NextP (r : Rq) (w : World) (e : Ending) (w' : World) : Prop :=
  ∃ v, e = .returned (.tuple #[v, .int .i64 (takenR r : Int), .int .i64 (errR r)]) ∧ AnsS w.heap.size w' v (wordsR r) ∧ Below w.heap.size w w'
theorem NextP.of {r r' : Rq} {w w' : World} {e : Ending} (h : NextP r w e w') (hr : r = r') : NextP r' w e w' := hr ▸ h
theorem next_bad {r : Rq} {w w' : World} (h : r = .bad) (hb : Below w.heap.size w w') : NextP r w (.returned (.tuple #[.slice none 0 0, .int .i64 0, .int .i64 10])) w' := by
  subst h
  exact ⟨_, rfl, ansS_none _ _, hb⟩
theorem next_none {r : Rq} {w w' : World} (h : r = .part) (hb : Below w.heap.size w w') : NextP r w (.returned (.tuple #[.slice none 0 0, .int .i64 0, .int .i64 0])) w' := by
  subst h
  exact ⟨_, rfl, ansS_none _ _, hb⟩
theorem next_is {r : Rq} {w w' : World} {ws : List (List UInt8)} {k : Nat} {v : Value} {x : Int} (h : r = .is ws k) (hx : x = (k : Int)) (ha : AnsS w.heap.size w' v ws) (hb : Below w.heap.size w w') : NextP r w (.returned (.tuple #[v, .int .i64 x, .int .i64 0])) w' := by
  subst h hx
  exact ⟨v, rfl, ha, hb⟩

end Go.Proofs.YtadffjmpkeaikaaDoor.FrameT
