/- Reading JSON: what the reader comes to (no program is mentioned here). -/
import Derived.Test.YtpiajoffddjjfaaGreatDoorJvSetq
import Derived.Test.YtpiajoffddjjfaaGreatDoorMg7Jso
import Derived.Test.YtpiajoffddjjfaaGreatDoorMg11Jso
namespace Go.Proofs.YtpiajoffddjjfaaGreatDoor
namespace Js
open K
/-- a place and an error, or what is read -/
abbrev Out (α : Type) := (Int × Int) ⊕ α
/-- the next token, and the place behind it -/
def nx (l : List Int) (room p : Nat) : Out (Tok × Nat) :=
  if (K.next l p).2.2 ≠ 0 then .inl (((K.next l p).2.1 : Nat), (K.next l p).2.2)
  else if room = 0 ∧ ((K.next l p).1.kind = 1 ∨ (K.next l p).1.kind = 3) then .inl ((K.next l p).1.a, 3) else .inr ((K.next l p).1, (K.next l p).2.1)
/-- a token that must be of a kind -/
def need {α : Type} (t : Tok) (k : Int) (x : Out α) : Out α := if t.kind = k then x else .inl (t.a, 2)
def andThen {α β : Type} (x : Out α) (f : α → Out β) : Out β := match x with
  | .inl e => .inl e
  | .inr a => f a
def wordJ (s : List Int) : JV := if s = [116, 114, 117, 101] then .mk 1 1 ⟨#[]⟩ [] [] else if s = [102, 97, 108, 115, 101] then .mk 1 0 ⟨#[]⟩ [] [] else .mk 0 0 ⟨#[]⟩ [] []
/-- what a List has so far -/
abbrev LSt := List JV
/-- what an Obj has so far: its names, those that were there, its things -/
abbrev OSt := List ByteArray × List JV
section
variable (rec : Tok → Nat → Out (JV × Nat)) (l : List Int) (room : Nat)
/-- a List's part -/
def partL (t : Tok) (p : Nat) (acc : List JV) : Out (List JV × Nat) := andThen (rec t p) fun (v, q) => .inr (acc ++ [v], q)
/-- an Obj's part -/
def partO (t : Tok) (p : Nat) (acc : OSt) : Out (OSt × Nat) :=
  need t 7 (if hasN acc.1 (strOfNums t.s) = true then .inl (t.a, 6) else andThen (nx l room p) fun (c, q) => need c 5 (andThen (nx l room q) fun (u, q2) => andThen (rec u q2) fun (v, q3) => .inr ((acc.1 ++ [strOfNums t.s], acc.2 ++ [v]), q3)))
end
section
variable {σ : Type} (part : Tok → Nat → σ → Out (σ × Nat)) (l : List Int) (room : Nat) (last : Int)
/-- parts behind the first one -/
def loopP : Nat → Tok → Nat → σ → Out (σ × Nat)
  | 0, _, _, _ => .inl (0, 0)
  | g + 1, t, p, a => if t.kind = 6 then andThen (nx l room p) fun (u, q) => andThen (part u q a) fun (b, q2) => andThen (nx l room q2) fun (t2, q3) => loopP g t2 q3 b else need t last (.inr (a, p))
/-- parts -/
def partsP (p : Nat) (a : σ) : Out (σ × Nat) := andThen (nx l room p) fun (t, q) => if t.kind = last then .inr (a, q) else andThen (part t q a) fun (b, q2) => andThen (nx l room q2) fun (t2, q3) => loopP part l room last (l.length + 1) t2 q3 b
end
/-- a thing that begins with a token -/
def thing (l : List Int) : Nat → Tok → Nat → Out (JV × Nat)
  | 0, t, p => if t.kind = 7 then .inr (.mk 4 0 (strOfNums t.s) [] [], p) else if t.kind = 8 then .inr (.mk 2 t.n ⟨#[]⟩ [] [], p) else if t.kind = 9 then .inr (wordJ t.s, p) else .inl (t.a, 2)
  | r + 1, t, p => if t.kind = 1 then andThen (partsP (partL (thing l r)) l r 2 p []) fun (vs, q) => .inr (.mk 5 0 ⟨#[]⟩ [] vs, q)
    else if t.kind = 3 then andThen (partsP (partO (thing l r) l r) l r 4 p ([], [])) fun (o, q) => .inr (.mk 6 0 ⟨#[]⟩ o.1 o.2, q)
    else if t.kind = 7 then .inr (.mk 4 0 (strOfNums t.s) [] [], p) else if t.kind = 8 then .inr (.mk 2 t.n ⟨#[]⟩ [] [], p) else if t.kind = 9 then .inr (wordJ t.s, p) else .inl (t.a, 2)
/-- a whole text -/
def whole (l : List Int) (room : Nat) : Out JV := andThen (nx l room 0) fun (t, p) => andThen (thing l room t p) fun (v, q) => andThen (nx l room q) fun (u, _) => need u 0 (.inr v)
def q1 : List Int := [123, 34, 97, 34, 58, 91, 49, 44, 110, 117, 108, 108, 93, 125]
def q2 : List Int := [123, 34, 97, 34, 58, 49, 44, 34, 97, 34, 58, 50, 125]
theorem q1_whole : whole q1 2 = .inr (.mk 6 0 ⟨#[]⟩ [⟨#[97]⟩] [.mk 5 0 ⟨#[]⟩ [] [.mk 2 1 ⟨#[]⟩ [] [], .mk 0 0 ⟨#[]⟩ [] []]]) := by rfl
theorem q2_whole : whole q2 2 = .inl (7, 6) := by rfl
theorem q3_whole : whole [91, 91, 93, 93] 1 = .inl (1, 3) := by rfl
end Js
end Go.Proofs.YtpiajoffddjjfaaGreatDoor

/- Reading JSON: what the reader comes to, as far as is said of it: where it gives up inside a part it says (0, 0), which no reader does (no program is mentioned here). -/
namespace Go.Proofs.YtpiajoffddjjfaaGreatDoor
namespace Js
open K
/-- a token that a text can hold -/
def okT (t : Tok) : Bool := decide (-9223372036854775808 ≤ t.n) && decide (t.n ≤ 9223372036854775807) && decide (t.s.length ≤ 100000) && t.s.all (fun x => decide (0 ≤ x) && decide (x ≤ 255))
section
variable (rec : Tok → Nat → Out (JV × Nat)) (l : List Int) (room : Nat)
/-- a List's part -/
def partL2 (t : Tok) (p : Nat) (acc : List JV) : Out (List JV × Nat) := match rec t p with
  | .inl _ => .inl (0, 0)
  | .inr (v, q) => if acc.length ≤ 100000 ∧ q ≤ l.length then .inr (acc ++ [v], q) else .inl (0, 0)
/-- an Obj's part behind its name -/
def partO3 (nm : ByteArray) (p : Nat) (acc : OSt) : Out (OSt × Nat) := match nx l room p with
  | .inl _ => .inl (0, 0)
  | .inr (c, q) => if c.kind = 5 ∧ q ≤ l.length then (match nx l room q with
    | .inl _ => .inl (0, 0)
    | .inr (u, q2) => if q2 ≤ l.length then (match rec u q2 with
      | .inl _ => .inl (0, 0)
      | .inr (v, q3) => if q3 ≤ l.length ∧ acc.1.length ≤ 100000 then .inr ((acc.1 ++ [nm], acc.2 ++ [v]), q3) else .inl (0, 0)) else .inl (0, 0)) else .inl (0, 0)
/-- an Obj's part -/
def partO2 (t : Tok) (p : Nat) (acc : OSt) : Out (OSt × Nat) :=
  if okT t = true ∧ t.kind = 7 ∧ acc.1.length ≤ 100000 then (if hasN acc.1 (strOfNums t.s) = true then .inl (t.a, 6) else partO3 rec l room (strOfNums t.s) p acc) else .inl (0, 0)
end
/-- a thing without things in it -/
def leaf2 (t : Tok) (p : Nat) : Out (JV × Nat) := if okT t = true then (if t.kind = 7 then .inr (.mk 4 0 (strOfNums t.s) [] [], p) else if t.kind = 8 then .inr (.mk 2 t.n ⟨#[]⟩ [] [], p) else if t.kind = 9 then .inr (wordJ t.s, p) else .inl (0, 0)) else .inl (0, 0)
/-- a thing that begins with a token -/
def thing2 (l : List Int) : Nat → Tok → Nat → Out (JV × Nat)
  | 0, t, p => if t.kind = 1 ∨ t.kind = 3 then .inl (0, 0) else leaf2 t p
  | r + 1, t, p => if t.kind = 1 then andThen (partsP (partL2 (thing2 l r) l) l r 2 p []) fun (vs, q) => .inr (.mk 5 0 ⟨#[]⟩ [] vs, q)
    else if t.kind = 3 then andThen (partsP (partO2 (thing2 l r) l r) l r 4 p ([], [])) fun (o, q) => .inr (.mk 6 0 ⟨#[]⟩ o.1 o.2, q)
    else leaf2 t p
/-- a whole text -/
def whole2 (l : List Int) (room : Nat) : Out JV := andThen (nx l room 0) fun (t, p) => if p ≤ l.length then andThen (thing2 l room t p) fun (v, q) => if q ≤ l.length then andThen (nx l room q) fun (u, _) => need u 0 (.inr v) else .inl (0, 0) else .inl (0, 0)
theorem q1_whole2 : whole2 q1 2 = .inr (.mk 6 0 ⟨#[]⟩ [⟨#[97]⟩] [.mk 5 0 ⟨#[]⟩ [] [.mk 2 1 ⟨#[]⟩ [] [], .mk 0 0 ⟨#[]⟩ [] []]]) := by rfl
theorem q2_whole2 : whole2 q2 2 = .inl (7, 6) := by rfl
theorem q3_whole2 : whole2 [91, 91, 93, 93] 1 = .inl (1, 3) := by rfl
theorem q1_places : ∀ q, q < 15 → (K.next q1 q).2.1 ≤ 14 := by decide +kernel
theorem q2_places : ∀ q, q < 14 → (K.next q2 q).2.1 ≤ 13 := by decide +kernel
theorem q3_places : ∀ q, q < 5 → (K.next [91, 91, 93, 93] q).2.1 ≤ 4 := by decide +kernel
/-- the place behind what is read lies in the text -/
theorem partL2_place {rec : Tok → Nat → Out (JV × Nat)} {l : List Int} {t : Tok} {p : Nat} {acc a' : List JV} {q' : Nat} (h : partL2 rec l t p acc = .inr (a', q')) : q' ≤ l.length := by
  unfold partL2 at h
  split at h
  · cases h
  · split at h
    · rename_i hh
      injection h with h
      injection h with _ h
      rw [← h]; exact hh.2
    · cases h
theorem partO2_place {rec : Tok → Nat → Out (JV × Nat)} {l : List Int} {room : Nat} {t : Tok} {p : Nat} {acc a' : OSt} {q' : Nat} (h : partO2 rec l room t p acc = .inr (a', q')) : q' ≤ l.length := by
  unfold partO2 at h
  split at h
  · split at h
    · cases h
    · unfold partO3 at h
      split at h
      · cases h
      · split at h
        · split at h
          · cases h
          · split at h
            · split at h
              · cases h
              · split at h
                · rename_i hh
                  injection h with h
                  injection h with _ h
                  rw [← h]; exact hh.1
                · cases h
            · cases h
        · cases h
  · cases h
end Js
end Go.Proofs.YtpiajoffddjjfaaGreatDoor

/- Reading JSON: the reader in memory; things in a growing row of one's own (no walk). -/
set_option linter.unusedVariables false
namespace Go.Proofs.YtpiajoffddjjfaaGreatDoor
open Go.RowKit Go.Shelf
theorem own_blkJ {w : World} {base : Nat} {e : TypeId} {size : Nat} {v : Value} {n : Nat} {xs : List Value} (h : w.ownsRow base e size v n xs) : ∀ b, v.ownBlock = some b → b < w.heap.size ∧ base ≤ b ∧ ∃ cs, w.heap[b]? = some (.cells cs e (0, 0)) := by
  intro b hb
  rcases h.2 with ⟨rfl, _⟩ | ⟨g, cap, cur, rfl, h1, hg, _⟩
  · simp [Value.ownBlock] at hb
  · simp [Value.ownBlock] at hb
    subst hb
    exact ⟨(Array.getElem?_eq_some_iff.1 hg).1, h1, cur, hg⟩
theorem own_keptJ {B : Nat} {W W' : World} {e : TypeId} {size n : Nat} {v : Value} {xs : List Value} (h : W.ownsRow B e size v n xs) (hb : ∀ b, B ≤ b → b < W.heap.size → v.ownBlock = some b → W'.heap[b]? = W.heap[b]?) : W'.ownsRow B e size v n xs := by
  refine ⟨h.1, ?_⟩
  rcases h.2 with hn | ⟨g, cap, cur, rfl, hg, hh, r⟩
  · exact .inl hn
  · exact .inr ⟨g, cap, cur, rfl, hg, (hb g hg (Array.getElem?_eq_some_iff.1 hh).1 rfl).trans hh, r⟩
/-- the reader -/
def RJ (w : World) (p : Nat) (s : ByteArray) (at' : Nat) (room : Nat) : Prop := w.heap[p]? = some (.cells #[.string s, .int .i64 (at' : Int), .int .i64 (room : Int)] 47 (0, 0))
theorem rj_lt {w : World} {p : Nat} {s : ByteArray} {a r : Nat} (h : RJ w p s a r) : p < w.heap.size := (Array.getElem?_eq_some_iff.1 h).1
theorem rj_cells {w : World} {p : Nat} {s : ByteArray} {a r : Nat} (h : RJ w p s a r) : (w.cell? ⟨p, 0, none⟩ = some (.string s) ∧ w.cell? ⟨p, 1, none⟩ = some (.int .i64 (a : Int)) ∧ w.cell? ⟨p, 2, none⟩ = some (.int .i64 (r : Int))) ∧
    w.frozen? ⟨p, 1, none⟩ = false ∧ w.frozen? ⟨p, 2, none⟩ = false := by
  refine ⟨⟨?_, ?_, ?_⟩, ?_, ?_⟩ <;> simp [World.cell?, World.frozen?, show w.heap[p]? = _ from h]
theorem rj_kept {w w' : World} {p : Nat} {s : ByteArray} {a r : Nat} {row : Option Nat} (h : RJ w p s a r) (hg : w.grownBy w' row) (hne : some p ≠ row) : RJ w' p s a r := (hg.block p (rj_lt h) hne).trans h
theorem rj_below {w w' : World} {p : Nat} {s : ByteArray} {a r : Nat} (h : RJ w p s a r) (hb : Below w.heap.size w w') : RJ w' p s a r := (hb.block p (rj_lt h)).trans h
theorem rj_at {w : World} {p : Nat} {s : ByteArray} {a r : Nat} (h : RJ w p s a r) (q : Nat) : RJ (w.setCell ⟨p, 1, none⟩ (.int .i64 (q : Int))) p s q r := by
  obtain ⟨hlt, hk⟩ := Array.getElem?_eq_some_iff.1 h
  show (w.heap.modify p _)[p]? = _
  rw [Array.getElem?_eq_getElem (by rw [Array.size_modify]; exact hlt), Array.getElem_modify_self, hk]
  rfl
theorem rj_room {w : World} {p : Nat} {s : ByteArray} {a r : Nat} (h : RJ w p s a r) (q : Nat) : RJ (w.setCell ⟨p, 2, none⟩ (.int .i64 (q : Int))) p s a q := by
  obtain ⟨hlt, hk⟩ := Array.getElem?_eq_some_iff.1 h
  show (w.heap.modify p _)[p]? = _
  rw [Array.getElem?_eq_getElem (by rw [Array.size_modify]; exact hlt), Array.getElem_modify_self, hk]
  rfl
theorem grownJ_of_below {A B : World} (h : Below A.heap.size A B) (row : Option Nat) : A.grownBy B row := by
  obtain ⟨h1, h2, h3, h4, h5⟩ := h
  exact ⟨h1, h2, h3, h4, fun k hk _ => h5 k hk⟩
theorem grownJ_set (W : World) (b i : Nat) (v : Value) : W.grownBy (W.setCell ⟨b, i, none⟩ v) (some b) :=
  ⟨rfl, rfl, rfl, (KeepsWalks.setCell W _ v).size, fun k _ hk => Below.heap_setCell _ _ _ k (fun e => hk (by rw [e]))⟩
/-- .. behind what has grown from w on: a block that w had not, or the one that may turn -/
theorem grownJ_then {w W V : World} {row row' : Option Nat} (h : w.grownBy W row) (k : W.grownBy V row') (hr : ∀ b, row' = some b → w.heap.size ≤ b ∨ row = some b) : w.grownBy V row := by
  obtain ⟨a1, a2, a3, a4, a5⟩ := h
  obtain ⟨b1, b2, b3, b4, b5⟩ := k
  exact ⟨b1.trans a1, b2.trans a2, b3.trans a3, Nat.le_trans a4 b4, fun j hj hne => (b5 j (by omega) (fun e => by
    rcases hr j e.symm with h | h
    · omega
    · exact hne h.symm)).trans (a5 j hj hne)⟩
/-- no token lies there -/
def NT (W : World) (b : Nat) : Prop := ∀ (cs : Array Value) (f : Nat × Nat), W.heap[b]? ≠ some (Obj.cells cs 60 f)
theorem nt_eq {W W' : World} {b : Nat} (h : NT W b) (e : W'.heap[b]? = W.heap[b]?) : NT W' b := fun cs f k => h cs f (e ▸ k)
theorem nt_cells {W : World} {b : Nat} {cs : Array Value} {t : TypeId} {f : Nat × Nat} (h : W.heap[b]? = some (Obj.cells cs t f)) (ht : t ≠ 60) : NT W b := fun cs' f' k => by
  rw [h] at k
  injection k with k
  injection k with _ k _
  exact ht k
/-- a thing whose blocks are all from E on (tokens' variables, that lie between, are none of its) -/
def FreshJ (E : Nat) (w' : World) (y : JV) (x : Value) : Prop := ∀ W' : World, (∀ b, E ≤ b → b < w'.heap.size → NT w' b → W'.heap[b]? = w'.heap[b]?) → IsJ W' y x
theorem freshJ_mono {E E' : Nat} {w : World} {y : JV} {x : Value} (h : FreshJ E w y x) (hE : E' ≤ E) : FreshJ E' w y x := fun W' k => h W' fun b h1 h2 h3 => k b (by omega) h2 h3
theorem freshJ_later {E : Nat} {w w' : World} {y : JV} {x : Value} (h : FreshJ E w y x) (hs : w.heap.size ≤ w'.heap.size) (hb : ∀ b, E ≤ b → b < w.heap.size → NT w b → w'.heap[b]? = w.heap[b]?) : FreshJ E w' y x :=
  fun W' k => h W' fun b h1 h2 h3 => (k b h1 (by omega) (nt_eq h3 (hb b h1 h2 h3))).trans (hb b h1 h2 h3)
/-- the row's things: each in blocks of its own -/
def JEl (B : Nat) (W : World) (u : Value) (ys : List JV) (cs : List Value) : Prop :=
  ∀ (i : Nat) (y : JV), ys[i]? = some y → ∃ c0 c1 c2 c3 c4 E F, (cs[i * 5]? = some c0 ∧ cs[i * 5 + 1]? = some c1 ∧ cs[i * 5 + 2]? = some c2 ∧ cs[i * 5 + 3]? = some c3 ∧ cs[i * 5 + 4]? = some c4) ∧
    (B ≤ E ∧ F ≤ W.heap.size ∧ ∀ g, u.ownBlock = some g → g < E ∨ F ≤ g) ∧ ∀ W' : World, (∀ b, E ≤ b → b < F → NT W b → W'.heap[b]? = W.heap[b]?) → IsJ W' y (.agg #[c0, c1, c2, c3, c4])
def JRow (B : Nat) (W : World) (u : Value) (ys : List JV) : Prop := ∃ cs, W.ownsRow B 25 5 u ys.length cs ∧ JEl B W u ys cs
theorem jrow_nil (B : Nat) (W : World) : JRow B W (.slice none 0 0) [] := ⟨[], World.ownsRow_nil _ _ _ _, fun i y h => by simp at h⟩
/-- all from B on is as it was, but tokens -/
theorem jel_keep {B : Nat} {W W' : World} {u : Value} {ys : List JV} {cs : List Value} (h2 : JEl B W u ys cs) (hs : W.heap.size ≤ W'.heap.size) (hb : ∀ b, B ≤ b → b < W.heap.size → NT W b → W'.heap[b]? = W.heap[b]?) : JEl B W' u ys cs := fun i y hy => by
  obtain ⟨c0, c1, c2, c3, c4, E, F, hc, ⟨q1, q2, q3⟩, hi⟩ := h2 i y hy
  exact ⟨c0, c1, c2, c3, c4, E, F, hc, ⟨q1, Nat.le_trans q2 hs, q3⟩, fun W2 h => hi W2 fun b b1 b2 b3 => (h b b1 b2 (nt_eq b3 (hb b (by omega) (by omega) b3))).trans (hb b (by omega) (by omega) b3)⟩
theorem own_keepJ {B : Nat} {W W' : World} {n : Nat} {v : Value} {xs : List Value} (h : W.ownsRow B 25 5 v n xs) (hb : ∀ b, B ≤ b → b < W.heap.size → NT W b → W'.heap[b]? = W.heap[b]?) : W'.ownsRow B 25 5 v n xs :=
  own_keptJ h (fun b b1 b2 e => by
    obtain ⟨_, _, cs, hc⟩ := own_blkJ h b e
    exact hb b b1 b2 (nt_cells hc (by decide)))
/-- the row is the things of a List or an Obj -/
theorem jrow_is {B : Nat} {W : World} {u : Value} {ys : List JV} (h : JRow B W u ys) {W' : World} (hb : ∀ b, B ≤ b → b < W.heap.size → W'.heap[b]? = W.heap[b]?) :
    ∃ a cap, u = .slice a ys.length cap ∧ ys.length ≤ cap ∧ cap ≤ maxLen ∧ (ys = [] ∨ ∃ b off, a = some ⟨b, off, none⟩ ∧ IsJL W' b ys off) := by
  obtain ⟨cs, h1, h2⟩ := h
  rcases h1.2 with ⟨rfl, hn⟩ | ⟨g, cap, cur, rfl, hg, hh, hc1, hc2, hc3, hc4⟩
  · exact ⟨none, 0, by rw [hn], by omega, by unfold maxLen; omega, .inl (List.length_eq_zero_iff.1 hn)⟩
  · refine ⟨_, cap, rfl, hc1, hc2, .inr ⟨g, 0, rfl, isJL_of fun i y hy => ?_⟩⟩
    obtain ⟨c0, c1, c2, c3, c4, E, F, ⟨u0, u1, u2, u3, u4⟩, ⟨q1, q2, q3⟩, hi⟩ := h2 i y hy
    have hv : W'.heap[g]? = some (.cells cur 25 (0, 0)) := (hb g hg (Array.getElem?_eq_some_iff.1 hh).1).trans hh
    have hil : i < ys.length := (List.getElem?_eq_some_iff.1 hy).1
    have at_ : ∀ j c, j < ys.length * 5 → cs[j]? = some c → W'.cell? ⟨g, j, none⟩ = some c := fun j c hj hjc => by
      rw [← hc4, List.getElem?_take, if_pos hj] at hjc
      simp only [World.cell?, hv]
      simpa using hjc
    rw [Nat.zero_add]
    exact ⟨c0, c1, c2, c3, c4, ⟨at_ _ _ (by omega) u0, at_ _ _ (by omega) u1, at_ _ _ (by omega) u2, at_ _ _ (by omega) u3, at_ _ _ (by omega) u4⟩, hi W' fun b b1 b2 _ => hb b (by omega) (by omega)⟩
/-- a cell of an own row is stored to -/
theorem own_setJ {B n j : Nat} {W : World} {e : TypeId} {size : Nat} {v c : Value} {xs : List Value} {g : Nat} (h : W.ownsRow B e size v n xs) (hg : v.ownBlock = some g) (hj : j < n * size) : (W.setCell ⟨g, j, none⟩ c).ownsRow B e size v n (xs.set j c) := by
  obtain ⟨hl, h2⟩ := h
  rcases h2 with ⟨rfl, _⟩ | ⟨g', cap, cur, rfl, hb, hh, hn, hm, hs, ht⟩
  · simp [Value.ownBlock] at hg
  · obtain rfl : g' = g := by simpa [Value.ownBlock] using hg
    refine ⟨by simpa using hl, .inr ⟨g', cap, cur.setIfInBounds j c, rfl, hb, ?_, hn, hm, by simpa using hs, ?_⟩⟩
    · obtain ⟨hlt, hk⟩ := Array.getElem?_eq_some_iff.1 hh
      show (W.heap.modify g' _)[g']? = _
      rw [Array.getElem?_eq_getElem (by rw [Array.size_modify]; exact hlt), Array.getElem_modify_self, hk]
      rfl
    · rw [← ht]
      simp [Array.toList_setIfInBounds, List.take_set]
end Go.Proofs.YtpiajoffddjjfaaGreatDoor
