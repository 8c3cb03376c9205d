import PyProof.Rows.All
import Wide.All
import OpenK.AllK
import Wide.FinOn
import HandS.ForMost
import HandS.Wide
import HandS.IsInst
import HandS.Zip
import HandS.Walk
import HandS.Conv
import HandS.Star
import HandS.DictComp
import HandS.Style
import HandS.Flow
import HandS.TupAny
import HandS.ListItems
import HandS.Defaults
import KE.KStateDown
import Lean
import HandS.More
import HandS.WordsExc
import HandS.Head0
import HandS.Head1
import HandS.Head2
import HandS.HeadEnd
import HandS.HeadHook1
import HandS.HeadHook2
import KE.GoesEnum
import PySem.Challenge.RW_needfill_k03_filled
set_option Elab.async false
set_option linter.all false
set_option maxRecDepth 100000
namespace Nf
open PySem L2

/-! ### heaps: all that was tracked stays, but for some addresses -/
def Keep (D : List Addr) (H H' : Hp) : Prop := ∀ a o, H a = some o → a ∉ D → H' a = some o
theorem Keep.refl (D : List Addr) (H : Hp) : Keep D H H := fun _ _ h _ => h
theorem Keep.trans {D : List Addr} {H H1 H2 : Hp} (a : Keep D H H1) (b : Keep D H1 H2) : Keep D H H2 := fun c o h n => b c o (a c o h n) n
theorem Keep.of_same {D : List Addr} {H H' : Hp} (s : Same H H') : Keep D H H' := fun a o h _ => s a o h
theorem Keep.new {D : List Addr} {H H' : Hp} {p : Addr} {o : HO} (k : Keep D H H') (h : H' p = none) : Keep D H (upd H' p o) := fun a u e n => by
  rw [upd_ne (ne_of_none (k a u e n) h)]; exact k a u e n
theorem Keep.mut {D : List Addr} {H H' : Hp} {p : Addr} {o : HO} (k : Keep D H H') (h : p ∈ D) : Keep D H (upd H' p o) := fun a u e n => by
  have : a ≠ p := fun z => n (z ▸ h)
  rw [upd_ne this]; exact k a u e n
/-- an object that H does not know may change -/
theorem Keep.mutN {D : List Addr} {H H' : Hp} {p : Addr} {o : HO} (k : Keep D H H') (h : H p = none) : Keep D H (upd H' p o) := fun a u e n => by
  rw [upd_ne (ne_of_none e h)]; exact k a u e n
theorem Keep.weak {D E : List Addr} {H H' : Hp} (k : Keep D H H') (s : ∀ a, a ∈ D → a ∈ E) : Keep E H H' := fun a o h n => k a o h fun z => n (s a z)
theorem Keep.same {H H' : Hp} (k : Keep [] H H') : Same H H' := fun a o h => k a o h (by simp)
theorem Keep.free' {D : List Addr} {H H' : Hp} (e : Keep D H H') {l : Addr} (h : H' l = Option.none) (n : l ∉ D) : H l = Option.none := by
  cases q : H l with
  | none => rfl
  | some o =>
    rw [e l o q n] at h
    cases h
theorem same_new {H : Hp} {p : Addr} (h : H p = none) (o : HO) : Same H (upd H p o) := fun b u q => by rw [upd_ne (ne_of_none q h)]; exact q
theorem _root_.L2.Same.new {H H' : Hp} {p : Addr} {o : HO} (k : Same H H') (h : H' p = none) : Same H (upd H' p o) := k.trans (same_new h o)
theorem _root_.L2.Same.mutN {H H' : Hp} {p : Addr} {o : HO} (k : Same H H') (h : H p = none) : Same H (upd H' p o) := fun a u e => by
  rw [upd_ne (ne_of_none e h)]; exact k a u e
theorem _root_.L2.Same.keepN {H H' : Hp} (k : Same H H') : Keep [] H H' := Keep.of_same k

/-- all tuples stay -/
def TupS (H H' : Hp) : Prop := ∀ a xs, H a = some (.tup xs) → H' a = some (.tup xs)
theorem TupS.refl (H : Hp) : TupS H H := fun _ _ h => h
theorem TupS.trans {H H1 H2 : Hp} (a : TupS H H1) (b : TupS H1 H2) : TupS H H2 := fun c o h => b c o (a c o h)
theorem _root_.L2.Same.tups {H H' : Hp} (s : Same H H') : TupS H H' := fun a _ h => s a _ h
/-- no tuple stands at these places -/
def NoTup (D : List Addr) (H : Hp) : Prop := ∀ a ∈ D, ∀ xs, H a ≠ some (.tup xs)
theorem Keep.tups {D : List Addr} {H H' : Hp} (k : Keep D H H') (n : NoTup D H) : TupS H H' := fun a xs h => k a _ h fun m => n a m xs h
theorem TupS.new {H H' : Hp} {p : Addr} {o : HO} (k : TupS H H') (h : H' p = none) : TupS H (upd H' p o) := fun a u e => by
  rw [upd_ne (ne_of_none (k a u e) h)]; exact k a u e
theorem TupS.mutL {H H' : Hp} {p : Addr} {o : HO} {ys : List V} (k : TupS H H') (h : H' p = some (.lst ys)) : TupS H (upd H' p o) := fun a u e => by
  have q := k a u e
  have : a ≠ p := fun z => by rw [z, h] at q; cases q
  rw [upd_ne this]; exact q

/-! ### data of texts, numbers, truths, None and tuples -/
inductive Da where
  | non | bl (b : Bool) | int (i : Int) | str (x : Str) | tup (ds : List Da)
mutual
inductive Is (H : Hp) : V → Da → Prop
  | non : Is H .non .non
  | bl (b : Bool) : Is H (.bl b) (.bl b)
  | int (i : Int) : Is H (.int i) (.int i)
  | str (x : Str) : Is H (.str x) (.str x)
  | tup {a : Addr} {xs : List V} {ds : List Da} : H a = some (.tup xs) → IsA H xs ds → Is H (.ref a) (.tup ds)
inductive IsA (H : Hp) : List V → List Da → Prop
  | nil : IsA H [] []
  | cons {v : V} {vs : List V} {d : Da} {ds : List Da} : Is H v d → IsA H vs ds → IsA H (v :: vs) (d :: ds)
end
mutual
theorem Is.mono {H H' : Hp} (k : TupS H H') : ∀ {v : V} {d : Da}, Is H v d → Is H' v d
  | _, _, .non => .non
  | _, _, .bl b => .bl b
  | _, _, .int i => .int i
  | _, _, .str x => .str x
  | _, _, .tup h q => .tup (k _ _ h) (IsA.mono k q)
theorem IsA.mono {H H' : Hp} (k : TupS H H') : ∀ {v : List V} {d : List Da}, IsA H v d → IsA H' v d
  | _, _, .nil => .nil
  | _, _, .cons h q => .cons (Is.mono k h) (IsA.mono k q)
end
theorem IsA.len {H : Hp} : ∀ {vs : List V} {ds : List Da}, IsA H vs ds → vs.length = ds.length
  | _, _, .nil => rfl
  | _, _, .cons _ q => congrArg (· + 1) (IsA.len q)
theorem IsA.get {H : Hp} : ∀ {vs : List V} {ds : List Da} {i : Nat} {d : Da}, IsA H vs ds → ds[i]? = some d → ∃ v, vs[i]? = some v ∧ Is H v d
  | _, _, _, _, .nil, e => by simp at e
  | _, _, 0, _, .cons h _, e => by simp at e; subst e; exact ⟨_, rfl, h⟩
  | _, _, i + 1, d, .cons _ q, e => by
    obtain ⟨v, a, b⟩ := IsA.get (i := i) (d := d) q (by simpa using e)
    exact ⟨v, by simpa using a, b⟩
theorem IsA.getV {H : Hp} : ∀ {vs : List V} {ds : List Da} {i : Nat} {v : V}, IsA H vs ds → vs[i]? = some v → ∃ d, ds[i]? = some d ∧ Is H v d
  | _, _, _, _, .nil, e => by simp at e
  | _, _, 0, _, .cons h _, e => by simp at e; subst e; exact ⟨_, rfl, h⟩
  | _, _, i + 1, d, .cons _ q, e => by
    obtain ⟨v, a, b⟩ := IsA.getV (i := i) q (by simpa using e)
    exact ⟨v, by simpa using a, b⟩
theorem IsA.app {H : Hp} : ∀ {vs ws : List V} {ds es : List Da}, IsA H vs ds → IsA H ws es → IsA H (vs ++ ws) (ds ++ es)
  | _, _, _, _, .nil, s => s
  | _, _, _, _, .cons h q, s => .cons h (IsA.app q s)
theorem IsA.take {H : Hp} : ∀ {vs : List V} {ds : List Da} (n : Nat), IsA H vs ds → IsA H (vs.take n) (ds.take n)
  | _, _, 0, _ => .nil
  | _, _, _ + 1, .nil => .nil
  | _, _, n + 1, .cons h q => .cons h (IsA.take n q)
theorem IsA.drop {H : Hp} : ∀ {vs : List V} {ds : List Da} (n : Nat), IsA H vs ds → IsA H (vs.drop n) (ds.drop n)
  | _, _, 0, r => r
  | _, _, _ + 1, .nil => .nil
  | _, _, n + 1, .cons _ q => IsA.drop n q
/-- how deep, told by a bound -/
def Da.dep : Nat → Da → Prop
  | 0, _ => False
  | n + 1, .tup ds => ds.length ≤ 100000 ∧ ∀ d ∈ ds, Da.dep n d
  | _ + 1, _ => True
def Da.ty : Da → String
  | .non => "NoneType"
  | .bl _ => "bool"
  | .int _ => "int"
  | .str _ => "str"
  | .tup _ => "tuple"
theorem Is.ty {K : PySem.W.Frag} {H : Hp} {v : V} {d : Da} (h : Is H v d) : TyX K H v (.type d.ty) := by
  cases h with
  | non => exact .base .non
  | bl b => exact .base (.bl b)
  | int i => exact .base (.int i)
  | str x => exact .base (.str x)
  | tup h _ => exact .base (.tup h)
theorem walk_zipT {K : PySem.W.Frag} {a b : Addr} {xs ys : List V} {n : Nat} (hn : n = min xs.length ys.length) : Walk (RZ.ItzT K a b) n (fun H => SqT K H a xs ∧ SqT K H b ys) (YPair (fun i => xs[i]?) (fun i => ys[i]?)) := by
  subst hn
  refine ⟨fun i _ hi q => ?_, fun _ q => ⟨xs, ys, q.1, q.2, by omega⟩, fun i H v H' _ q y => ?_⟩
  · have h1 : i < xs.length := by omega
    have h2 : i < ys.length := by omega
    exact ⟨xs, ys, xs[i], ys[i], q.1, q.2, by simp [h1], by simp [h2]⟩
  · obtain ⟨T, x, z, h1, h2, h3, h4, h5⟩ := y
    exact ⟨T, x, z, h1, h2, h3, h4 xs q.1, h5 ys q.2⟩
theorem fn_never {P : Program} {w : World} {K : PySem.W.Frag} {mg : Str → Option Value} {base : Heap} {CX : CXT} {k : Nat} {f : Addr} {fd : FuncData} {ps : List Str} {sp : Sp} (no : ∀ vs H Q E, ¬ sp vs H Q E) : FnOk P w K mg base CX k f fd ps sp :=
  ⟨fun vs H Q E h => absurd h (no vs H Q E), fun _ _ _ H _ _ vs Q E _ _ _ _ h => absurd h (no vs H Q E)⟩
theorem yes_if {σ : L2.St} {H : Hp} {A B : Hp → Prop} (h : A H) : tYes σ H fun b H3 => if b = true then A H3 else B H3 := by
  show (if true = true then A H else B H)
  rw [if_pos rfl]
  exact h
theorem sz5 {n : Nat} (h : n ≤ 100000) : n ≤ sizeLine := Nat.le_trans h (by decide)
theorem sz5' {n : Nat} (h : n < 100000) : n < sizeLine := Nat.lt_of_lt_of_le h (by decide)
/-! alike -/
mutual
def Da.eq : Da → Da → Bool
  | .non, .non => true
  | .bl a, .bl b => a == b
  | .int i, .int j => decide (i = j)
  | .str x, .str y => decide (x = y)
  | .tup xs, .tup ys => Da.eqA xs ys
  | _, _ => false
def Da.eqA : List Da → List Da → Bool
  | [], [] => true
  | x :: xs, y :: ys => Da.eq x y && Da.eqA xs ys
  | _, _ => false
end
mutual
theorem Da.eq_refl : ∀ d : Da, Da.eq d d = true
  | .non => rfl
  | .bl b => by simp [Da.eq]
  | .int i => by simp [Da.eq]
  | .str x => by simp [Da.eq]
  | .tup ds => by simp only [Da.eq]; exact Da.eqA_refl ds
theorem Da.eqA_refl : ∀ d : List Da, Da.eqA d d = true
  | [] => rfl
  | d :: r => by simp only [Da.eqA, Da.eq_refl d, Da.eqA_refl r, Bool.and_self]
end
theorem Da.eqA_len : ∀ {xs ys : List Da}, xs.length ≠ ys.length → Da.eqA xs ys = false
  | [], [], h => absurd rfl h
  | [], _ :: _, _ => rfl
  | _ :: _, [], _ => rfl
  | x :: xs, y :: ys, h => by
    have := Da.eqA_len (xs := xs) (ys := ys) (fun e => h (by simp [e]))
    simp [Da.eqA, this]
theorem Da.eqA_zip : ∀ {xs ys : List Da}, xs.length = ys.length → Da.eqA xs ys = ((xs.zip ys).map fun p => Da.eq p.1 p.2).all id
  | [], [], _ => rfl
  | x :: xs, y :: ys, h => by
    have := Da.eqA_zip (xs := xs) (ys := ys) (by simpa using h)
    simp [Da.eqA, this]

/-! ### the deck -/
abbrev MM : Int := 2147483629
structure Deck (H : Hp) (d g c : Addr) (n : Nat) : Prop where
  ne1 : d ≠ g
  ne2 : d ≠ c
  ne3 : g ≠ c
  hd : ∃ k : Nat, H d = some (.lst [.ref g, .ref c, .int k]) ∧ k ≤ n
  hg : ∃ ds : List Int, H g = some (.lst (ds.map V.int)) ∧ ∀ x ∈ ds, 0 ≤ x ∧ x < MM
  hc : ∃ cs : List Int, H c = some (.lst (cs.map V.int)) ∧ 0 < cs.length ∧ cs.length ≤ 64 ∧ ∀ x ∈ cs, 0 ≤ x ∧ x < MM
theorem Deck.noTup {H : Hp} {d g c : Addr} {n : Nat} (D : Deck H d g c n) : NoTup [d, g, c] H := fun a m xs e => by
  obtain ⟨k, h1, _⟩ := D.hd
  obtain ⟨ds, h2, _⟩ := D.hg
  obtain ⟨cs, h3, _⟩ := D.hc
  simp only [List.mem_cons, List.not_mem_nil, or_false] at m
  rcases m with rfl | rfl | rfl
  · rw [h1] at e; cases e
  · rw [h2] at e; cases e
  · rw [h3] at e; cases e
theorem Deck.put {H : Hp} {d g c p : Addr} {n : Nat} {o : HO} (D : Deck H d g c n) (h : p ∉ [d, g, c]) : Deck (upd H p o) d g c n := by
  simp only [List.mem_cons, List.not_mem_nil, or_false, not_or] at h
  obtain ⟨a, b, e⟩ := h
  refine ⟨D.ne1, D.ne2, D.ne3, ?_, ?_, ?_⟩
  · rw [upd_ne (Ne.symm a)]; exact D.hd
  · rw [upd_ne (Ne.symm b)]; exact D.hg
  · rw [upd_ne (Ne.symm e)]; exact D.hc
theorem Deck.not_new {H : Hp} {d g c p : Addr} {n : Nat} (D : Deck H d g c n) (h : H p = none) : p ∉ [d, g, c] := by
  obtain ⟨k, h1, _⟩ := D.hd
  obtain ⟨ds, h2, _⟩ := D.hg
  obtain ⟨cs, h3, _⟩ := D.hc
  simp only [List.mem_cons, List.not_mem_nil, or_false, not_or]
  exact ⟨(ne_of_none h1 h).symm, (ne_of_none h2 h).symm, (ne_of_none h3 h).symm⟩
theorem Deck.new {H : Hp} {d g c p : Addr} {n : Nat} {o : HO} (D : Deck H d g c n) (h : H p = none) : Deck (upd H p o) d g c n := D.put (D.not_new h)
theorem Deck.le {H : Hp} {d g c : Addr} {n m : Nat} (D : Deck H d g c n) (h : n ≤ m) : Deck H d g c m := by
  obtain ⟨k, h1, h2⟩ := D.hd
  exact ⟨D.ne1, D.ne2, D.ne3, ⟨k, h1, by omega⟩, D.hg, D.hc⟩
theorem Deck.same {H H' : Hp} {d g c : Addr} {n : Nat} (D : Deck H d g c n) (s : Same H H') : Deck H' d g c n := by
  obtain ⟨k, h1, h2⟩ := D.hd
  obtain ⟨ds, h3, h4⟩ := D.hg
  obtain ⟨cs, h5, h6⟩ := D.hc
  exact ⟨D.ne1, D.ne2, D.ne3, ⟨k, s _ _ h1, h2⟩, ⟨ds, s _ _ h3, h4⟩, ⟨cs, s _ _ h5, h6⟩⟩
theorem mod_range {k m : Int} (h : 0 < m) : 0 ≤ k % m ∧ k % m < m := ⟨Int.emod_nonneg _ (by omega), Int.emod_lt_of_pos _ h⟩
theorem at_int {ns : List Int} {i : Int} (h0 : 0 ≤ i) (h1 : i < ns.length) : ∃ v, atI (ns.map V.int) i = some (.int v) ∧ v ∈ ns := by
  have hk : i.toNat < ns.length := by omega
  refine ⟨ns[i.toNat], at_of (j := i.toNat) (by omega) ?_, List.getElem_mem hk⟩
  rw [List.getElem?_map, List.getElem?_eq_getElem hk]; rfl
theorem at_nat {α : Type} {xs : List α} {f : α → V} {i : Int} (h0 : 0 ≤ i) (h1 : i < xs.length) : ∃ v, atI (xs.map f) i = some (f v) ∧ v ∈ xs ∧ xs[i.toNat]? = some v := by
  have hk : i.toNat < xs.length := by omega
  refine ⟨xs[i.toNat], at_of (j := i.toNat) (by omega) ?_, List.getElem_mem hk, List.getElem?_eq_getElem hk⟩
  rw [List.getElem?_map, List.getElem?_eq_getElem hk]; rfl
theorem atV {xs : List V} {i : Int} (h0 : 0 ≤ i) (h1 : i < xs.length) : ∃ v, atI xs i = some v ∧ xs[i.toNat]? = some v := by
  have hk : i.toNat < xs.length := by omega
  exact ⟨xs[i.toNat], at_of (j := i.toNat) (by omega) (List.getElem?_eq_getElem hk), List.getElem?_eq_getElem hk⟩
end Nf

set_option Elab.async false
set_option linter.all false
set_option maxRecDepth 100000
namespace Nf
open PySem L2
/-! ### sayings -/
inductive Say where
  | name (x : Str) | skip | app (c : Bool) (w : Str) (ps : List Say) | two (c : Bool) (a b : Say)
def hApp (c : Bool) : Str := if c then "call" else "made"
def hTwo (c : Bool) : Str := if c then "same" else "either"
mutual
def Say.da : Say → Da
  | .name x => .tup [.str "name", .str x]
  | .skip => .tup [.str "skip"]
  | .app c w ps => .tup [.str (hApp c), .str w, .tup (Say.das ps)]
  | .two c a b => .tup [.str (hTwo c), Say.da a, Say.da b]
def Say.das : List Say → List Da
  | [] => []
  | s :: r => Say.da s :: Say.das r
end
theorem Say.das_map : ∀ ps : List Say, Say.das ps = ps.map Say.da
  | [] => rfl
  | s :: r => by simp only [Say.das, List.map_cons, Say.das_map r]
def Say.head : Say → Str
  | .name _ => "name"
  | .skip => "skip"
  | .app c _ _ => hApp c
  | .two c _ _ => hTwo c
section
variable {H : Hp} {v : V}
theorem is_name {x : Str} (h : Is H v (Say.name x).da) : ∃ a, v = .ref a ∧ H a = some (.tup [.str "name", .str x]) := by
  simp only [Say.da] at h
  cases h with
  | @tup a xs _ h1 h2 =>
    cases h2 with
    | cons p q =>
      cases q with
      | cons p2 q2 =>
        cases q2; cases p; cases p2
        exact ⟨a, rfl, h1⟩
theorem is_skip (h : Is H v Say.skip.da) : ∃ a, v = .ref a ∧ H a = some (.tup [.str "skip"]) := by
  simp only [Say.da] at h
  cases h with
  | @tup a xs _ h1 h2 =>
    cases h2 with
    | cons p q =>
      cases q; cases p
      exact ⟨a, rfl, h1⟩
theorem is_app {c : Bool} {w : Str} {ps : List Say} (h : Is H v (Say.app c w ps).da) : ∃ a b xs, v = .ref a ∧ H a = some (.tup [.str (hApp c), .str w, .ref b]) ∧ H b = some (.tup xs) ∧ IsA H xs (ps.map Say.da) := by
  simp only [Say.da, Say.das_map] at h
  cases h with
  | @tup a xs _ h1 h2 =>
    cases h2 with
    | cons p q =>
      cases q with
      | cons p2 q2 =>
        cases q2 with
        | cons p3 q3 =>
          cases q3; cases p; cases p2
          cases p3 with
          | @tup b ys _ h3 h4 => exact ⟨a, b, ys, rfl, h1, h3, h4⟩
theorem is_two {c : Bool} {s t : Say} (h : Is H v (Say.two c s t).da) : ∃ a x y, v = .ref a ∧ H a = some (.tup [.str (hTwo c), x, y]) ∧ Is H x s.da ∧ Is H y t.da := by
  simp only [Say.da] at h
  cases h with
  | @tup a xs _ h1 h2 =>
    cases h2 with
    | cons p q =>
      cases q with
      | cons p2 q2 =>
        cases q2 with
        | cons p3 q3 =>
          cases q3; cases p
          exact ⟨a, _, _, rfl, h1, p2, p3⟩
theorem mk_name {a : Addr} {x : Str} (h : H a = some (.tup [.str "name", .str x])) : Is H (.ref a) (Say.name x).da := by
  simp only [Say.da]
  exact .tup h (.cons (.str _) (.cons (.str _) .nil))
theorem mk_skip {a : Addr} (h : H a = some (.tup [.str "skip"])) : Is H (.ref a) Say.skip.da := by
  simp only [Say.da]
  exact .tup h (.cons (.str _) .nil)
theorem mk_app {a b : Addr} {c : Bool} {w : Str} {xs : List V} {ps : List Say} (h : H a = some (.tup [.str (hApp c), .str w, .ref b])) (h2 : H b = some (.tup xs)) (h3 : IsA H xs (ps.map Say.da)) : Is H (.ref a) (Say.app c w ps).da := by
  simp only [Say.da, Say.das_map]
  exact .tup h (.cons (.str _) (.cons (.str _) (.cons (.tup h2 h3) .nil)))
theorem mk_two {a : Addr} {x y : V} {c : Bool} {s t : Say} (h : H a = some (.tup [.str (hTwo c), x, y])) (h2 : Is H x s.da) (h3 : Is H y t.da) : Is H (.ref a) (Say.two c s t).da := by
  simp only [Say.da]
  exact .tup h (.cons (.str _) (.cons h2 (.cons h3 .nil)))
/-- the head of a saying stands first -/
theorem is_head {s : Say} (h : Is H v s.da) : ∃ a r, v = .ref a ∧ H a = some (.tup (.str s.head :: r)) := by
  cases s with
  | name x => obtain ⟨a, rfl, h'⟩ := is_name h; exact ⟨a, _, rfl, h'⟩
  | skip => obtain ⟨a, rfl, h'⟩ := is_skip h; exact ⟨a, _, rfl, h'⟩
  | app c w ps => obtain ⟨a, b, xs, rfl, h, _⟩ := is_app h; exact ⟨a, _, rfl, h⟩
  | two c s t => obtain ⟨a, x, y, rfl, h, _⟩ := is_two h; exact ⟨a, _, rfl, h⟩
end
/-- within a depth, with heads among some, at most three parts -/
def Say.ok (f : Str → Prop) : Nat → Say → Prop
  | 0, _ => False
  | _ + 1, .name _ => f "name"
  | _ + 1, .skip => f "skip"
  | n + 1, .app c _ ps => f (hApp c) ∧ ps.length ≤ 3 ∧ ∀ p ∈ ps, Say.ok f n p
  | n + 1, .two c a b => f (hTwo c) ∧ Say.ok f n a ∧ Say.ok f n b
theorem Say.ok_mono {f : Str → Prop} : ∀ {n m : Nat} {s : Say}, n ≤ m → Say.ok f n s → Say.ok f m s
  | 0, _, _, _, h => h.elim
  | _ + 1, 0, _, h, _ => absurd h (by omega)
  | n + 1, m + 1, .name _, _, h => h
  | n + 1, m + 1, .skip, _, h => h
  | n + 1, m + 1, .app c w ps, hm, h => ⟨h.1, h.2.1, fun p hp => Say.ok_mono (by omega) (h.2.2 p hp)⟩
  | n + 1, m + 1, .two c a b, hm, h => ⟨h.1, Say.ok_mono (by omega) h.2.1, Say.ok_mono (by omega) h.2.2⟩
theorem Say.ok_imp {f g : Str → Prop} (k : ∀ x, f x → g x) : ∀ {n : Nat} {s : Say}, Say.ok f n s → Say.ok g n s
  | 0, _, h => h.elim
  | n + 1, .name _, h => k _ h
  | n + 1, .skip, h => k _ h
  | n + 1, .app c w ps, h => ⟨k _ h.1, h.2.1, fun p hp => Say.ok_imp k (h.2.2 p hp)⟩
  | n + 1, .two c a b, h => ⟨k _ h.1, Say.ok_imp k h.2.1, Say.ok_imp k h.2.2⟩
theorem Say.dep {f : Str → Prop} : ∀ {n : Nat} {s : Say}, Say.ok f n s → Da.dep (2 * n + 2) s.da
  | 0, _, h => h.elim
  | n + 1, .name _, _ => by
    simp only [Say.da]
    refine ⟨by simp, fun d hd => ?_⟩
    simp at hd
    rcases hd with rfl | rfl <;> exact True.intro
  | n + 1, .skip, _ => by
    simp only [Say.da]
    refine ⟨by simp, fun d hd => ?_⟩
    simp at hd
    subst hd
    exact True.intro
  | n + 1, .app c w ps, h => by
    simp only [Say.da, Say.das_map]
    refine ⟨by simp, fun d hd => ?_⟩
    simp at hd
    rcases hd with rfl | rfl | rfl
    · exact True.intro
    · exact True.intro
    · refine ⟨by rw [List.length_map]; have := h.2.1; omega, fun d hd => ?_⟩
      obtain ⟨p, hp, rfl⟩ := List.mem_map.mp hd
      have := Say.dep (h.2.2 p hp)
      exact this
  | n + 1, .two c a b, h => by
    simp only [Say.da]
    have k : ∀ {j : Nat} {d : Da}, Da.dep j d → Da.dep (j + 1) d := by
      intro j
      induction j with
      | zero => intro d h; exact h.elim
      | succ j ih =>
        intro d h
        cases d with
        | tup ds => exact ⟨h.1, fun d hd => ih (h.2 d hd)⟩
        | _ => exact True.intro
    refine ⟨by simp, fun d hd => ?_⟩
    simp at hd
    rcases hd with rfl | rfl | rfl
    · exact True.intro
    · exact k (Say.dep h.2.1)
    · exact k (Say.dep h.2.2)
theorem Da.dep_mono : ∀ {n m : Nat} {d : Da}, n ≤ m → Da.dep n d → Da.dep m d
  | 0, _, _, _, h => h.elim
  | _ + 1, 0, _, h, _ => absurd h (by omega)
  | n + 1, m + 1, .tup ds, hm, h => ⟨h.1, fun d hd => Da.dep_mono (by omega) (h.2 d hd)⟩
  | n + 1, m + 1, .non, _, _ => True.intro
  | n + 1, m + 1, .bl _, _, _ => True.intro
  | n + 1, m + 1, .int _, _, _ => True.intro
  | n + 1, m + 1, .str _, _, _ => True.intro
/-- the six heads -/
def heads6 : List Str := ["name", "made", "call", "either", "same", "skip"]
theorem str_len (x y : Str) : (x ++ y).length = x.length + y.length := by
  show (x.cps ++ y.cps).size = x.cps.size + y.cps.size
  rw [Array.size_append]
/-- what a draw may cost -/
def cost (m : Nat) : Nat := 20 * 4 ^ m
theorem cost_pos (m : Nat) : 20 ≤ cost m := by
  unfold cost
  have : 0 < 4 ^ m := Nat.pow_pos (by decide)
  omega
theorem cost_succ (m : Nat) : cost (m + 1) = 4 * cost m := by
  unfold cost
  rw [Nat.pow_succ]
  omega
theorem atC {xs : List Nat} {i : Int} (h0 : 0 ≤ i) (h1 : i < xs.length) : ∃ v, atI xs i = some v := by
  have hk : i.toNat < xs.length := by omega
  refine ⟨xs[i.toNat], ?_⟩
  unfold atI ixN
  rw [if_pos h0, if_pos h1]
  exact List.getElem?_eq_getElem hk
theorem ifT {c A B : Prop} [Decidable c] (hc : c) (h : A) : if decide c = true then A else B := by rw [decide_eq_true hc]; exact iteT h
theorem ifF {c A B : Prop} [Decidable c] (hc : ¬ c) (h : B) : if decide c = true then A else B := by rw [decide_eq_false hc]; exact iteF h
theorem ifBT {b : Bool} {A B : Prop} (hb : b = true) (h : A) : if b = true then A else B := by rw [if_pos hb]; exact h
theorem ifBF {b : Bool} {A B : Prop} (hb : b = false) (h : B) : if b = true then A else B := by rw [hb]; exact iteF h
theorem g_name {i : Nat} {v : V} {σ : L2.St} {H : Hp} {Q : L2.St → Hp → Prop} (h : Q (σ.set i (some v)) H) : gName i v σ H Q := h
theorem seq_cut {t1 t2 : TS} {D : Ends} {σ : L2.St} {H : Hp} (M : L2.St → Hp → Prop) (h2 : ∀ σ' H', M σ' H' → t2 D σ' H') (h1 : (∀ σ' H', M σ' H' → t2 D σ' H') → t1 { D with nx := t2 D } σ H) : tSeq t1 t2 D σ H := h1 h2
theorem flat_strs : ∀ ws : List Str, (ws.map V.str).all flatV = true
  | [] => rfl
  | x :: r => by rw [List.map_cons, List.all_cons, flat_strs r]; rfl
theorem inV_strs {x : Str} : ∀ {ws : List Str}, inV (.str x) (ws.map V.str) = true ↔ x ∈ ws
  | [] => by simp [inV]
  | y :: r => by
    have h := inV_strs (x := x) (ws := r)
    unfold inV at h ⊢
    rw [List.map_cons, List.any_cons, Bool.or_eq_true, h, List.mem_cons]
    show (y == x) = true ∨ _ ↔ _
    rw [beq_iff_eq]
    exact ⟨fun z => z.imp Eq.symm id, fun z => z.imp Eq.symm id⟩
theorem heads6_cases {x : Str} (h : x ∈ heads6) : x = "skip" ∨ x = "name" ∨ (∃ c, x = hTwo c) ∨ ∃ c, x = hApp c := by
  unfold heads6 at h
  simp only [List.mem_cons, List.not_mem_nil, or_false] at h
  rcases h with h | h | h | h | h | h
  · exact .inr (.inl h)
  · exact .inr (.inr (.inr ⟨false, h⟩))
  · exact .inr (.inr (.inr ⟨true, h⟩))
  · exact .inr (.inr (.inl ⟨false, h⟩))
  · exact .inr (.inr (.inl ⟨true, h⟩))
  · exact .inl h
theorem Keep.at {D : List Addr} {H H' : Hp} {a : Addr} {o : HO} (k : Keep D H H') (h : H a = some o) (n : a ∉ D) : H' a = some o := k a o h n
theorem Keep.is {D : List Addr} {H H' : Hp} {v : V} {d : Da} (k : Keep D H H') (n : NoTup D H) (h : Is H v d) : Is H' v d := h.mono (k.tups n)
theorem IsA.map_get {α : Type} {H : Hp} {f : α → Da} {vs : List V} {xs : List α} {i : Nat} {v : V} (h : IsA H vs (xs.map f)) (e : vs[i]? = some v) : ∃ x, xs[i]? = some x ∧ Is H v (f x) := by
  obtain ⟨d, h1, h2⟩ := h.getV e
  rw [List.getElem?_map] at h1
  obtain ⟨x, hx, rfl⟩ := Option.map_eq_some_iff.mp h1
  exact ⟨x, hx, h2⟩
end Nf

set_option Elab.async false
set_option linter.all false
set_option maxRecDepth 100000
namespace Nf
open PySem L2
theorem cut_whole {xs : List V} {lo hi : Option Int} (h : HT.sIx xs.length 0 lo = 0 ∧ HT.sIx xs.length xs.length hi = xs.length) : cutV xs lo hi = xs := by
  show (xs.drop (HT.sIx xs.length 0 lo)).take (HT.sIx xs.length xs.length hi - HT.sIx xs.length 0 lo) = xs
  rw [h.1, h.2, List.drop_zero, Nat.sub_zero, List.take_length]
theorem sl_any {K : PySem.W.Frag} {H : Hp} {a : Addr} {xs : List V} {lo hi : Option Int} {Q : VK} (h : H a = some (.tup xs)) (q : ∀ p H', Same H H' → H' p = some (.tup (cutV xs lo hi)) → Q (.ref p) H') : rSlA K (.ref a) lo hi H Q := by
  refine ⟨a, xs, rfl, SqT.of h, fun hw => q a H (Same.refl H) (by rw [cut_whole hw]; exact h), fun _ p hp => q p _ (same_new hp _) upd_same⟩
theorem cat_any {K : PySem.W.Frag} {H : Hp} {a b : Addr} {xs ys : List V} {Q : VK} (h : H a = some (.tup xs)) (h2 : H b = some (.tup ys)) (hz : xs.length + ys.length ≤ 100000) (q : ∀ p H', Same H H' → H' p = some (.tup (xs ++ ys)) → Q (.ref p) H') : rCatA K (.ref a) (.ref b) H Q := by
  refine ⟨a, b, xs, ys, rfl, rfl, SqT.of h, SqT.of h2, sz5 hz, fun e => ?_, fun _ e => ?_, fun _ _ p hp => q p _ (same_new hp _) upd_same⟩
  · subst e; exact q b H (Same.refl H) (by simpa using h2)
  · subst e; exact q a H (Same.refl H) (by simpa using h)
theorem cut_from1 {x : V} {xs : List V} : cutV (x :: xs) (some 1) none = xs := by
  show ((x :: xs).drop (HT.sIx (x :: xs).length 0 (some ((1 : Nat) : Int)))).take ((x :: xs).length - HT.sIx (x :: xs).length 0 (some ((1 : Nat) : Int))) = xs
  rw [HT.sIx_nat]
  have e : min 1 (x :: xs).length = 1 := by rw [List.length_cons]; omega
  rw [e, List.drop_succ_cons, List.drop_zero, List.length_cons, Nat.add_sub_cancel, List.take_length]
theorem cut_to1 {x : V} {xs : List V} : cutV (x :: xs) none (some 1) = [x] := by
  show ((x :: xs).drop 0).take (HT.sIx (x :: xs).length (x :: xs).length (some ((1 : Nat) : Int)) - 0) = [x]
  rw [HT.sIx_nat]
  have e : min 1 (x :: xs).length = 1 := by rw [List.length_cons]; omega
  rw [e]
  rfl
def Say.isApp : Say → Bool
  | .app _ _ _ => true
  | _ => false
def Say.isTwo : Say → Bool
  | .two _ _ _ => true
  | _ => false
theorem in_mc (s : Say) : inV (.str s.head) [.str "made", .str "call"] = s.isApp := by
  cases s with
  | app c _ _ => show inV (.str (hApp c)) _ = true; revert c; decide
  | two c _ _ => show inV (.str (hTwo c)) _ = false; revert c; decide
  | name x => show inV (.str "name") _ = false; decide
  | skip => show inV (.str "skip") _ = false; decide
theorem in_es (s : Say) : inV (.str s.head) [.str "either", .str "same"] = s.isTwo := by
  cases s with
  | app c _ _ => show inV (.str (hApp c)) _ = false; revert c; decide
  | two c _ _ => show inV (.str (hTwo c)) _ = true; revert c; decide
  | name x => show inV (.str "name") _ = false; decide
  | skip => show inV (.str "skip") _ = false; decide
theorem head_app {c : Bool} {w : Str} {ps : List Say} : (Say.app c w ps).head ≠ "name" := by
  show hApp c ≠ "name"; revert c; decide
theorem head_two {c : Bool} {a b : Say} : (Say.two c a b).head ≠ "name" := by
  show hTwo c ≠ "name"; revert c; decide
theorem head_skip : Say.skip.head ≠ "name" := by
  show ¬ (("skip" : Str) = "name"); decide
theorem at0 {x : V} {r : List V} : atI (x :: r) 0 = some x := at_of (j := 0) rfl rfl
/-- a list made of a tuple's (or list's) items, one by one, each by a call that leaves all as it was -/
theorem lc_map {α : Type} {J : It} {G : Hp → Prop} {xs : List V} (W : Walk J xs.length G (YAt xs)) {f g : α → Da} {ps : List α} {H1 : Hp} {Z : Addr} {i0 : Nat} {te : TE} {vs : List Nat} {σ : L2.St} {Qd : Hp → Prop}
    (hxs : IsA H1 xs (ps.map f)) (hG : ∀ H, Same H1 H → G H) (hlen : ps.length ≤ 90000) (hZ : H1 Z = none)
    (hw : ∀ x : V, wipe ((wipe σ vs).set i0 (some x)) vs = wipe σ vs)
    (turn : ∀ (i : Nat) (x : V) (p : α) (H2 : Hp) (Q : VK), ps[i]? = some p → Same H1 H2 → Is H2 x (f p) → (∀ y H4, Same H2 H4 → Is H4 y (g p) → Q y H4) → te ((wipe σ vs).set i0 (some x)) H2 Q)
    (done : ∀ (H2 : Hp) (us : List V), Same H1 H2 → H2 Z = some (.lst us) → IsA H2 us (ps.map g) → Qd H2) :
    ∃ W : Nat → Nat → Hp → Prop, (∃ m, W 0 m (upd H1 Z (.lst []))) ∧ ∀ i m H, W i m H →
      (J.stop i H ∧ Qd H) ∨ (J.go i H ∧ ∃ Nx : Hp → Prop, (∀ H', Nx H' → ∃ m', m' < m ∧ W (i + 1) m' H') ∧ ∀ x H', J.yld i H x H' → gName i0 x (wipe σ vs) H' fun σ2 H2 => wipe σ2 vs = wipe σ vs ∧ tYes σ2 H2 fun b H3 =>
        if b = true then te σ2 H3 fun y H4 => ∃ acc, H4 Z = some (.lst acc) ∧ acc.length < sizeLine ∧ Nx (upd H4 Z (.lst (acc ++ [y]))) else Nx H3) := by
  have hxl : xs.length = ps.length := by rw [hxs.len, List.length_map]
  refine lc_it W (fun i H' => ∃ us : List V, Same H1 H' ∧ H' Z = some (.lst us) ∧ IsA H' us ((ps.take i).map g)) ?_ ?_ ?_ ?_
  · exact ⟨[], same_new hZ _, upd_same, .nil⟩
  · rintro i H2 _ ⟨us, h, _⟩
    exact hG H2 h
  · rintro i x H2 H3 hi ⟨us, S2, hZ2, IA⟩ ⟨rfl, hx⟩
    obtain ⟨p, hp, hxp⟩ := hxs.map_get hx
    refine ⟨hw x, yes_if ?_⟩
    refine turn i x p _ _ hp S2 (hxp.mono S2.tups) fun y H4 S4 I4 => ?_
    have lus : us.length = i := by rw [IA.len, List.length_map, List.length_take]; omega
    refine ⟨us, S4 _ _ hZ2, sz5' (by omega), us ++ [y], (S2.trans S4).mutN hZ, upd_same, ?_⟩
    have N : TupS H4 (upd H4 Z (.lst (us ++ [y]))) := (TupS.refl H4).mutL (S4 _ _ hZ2)
    rw [List.take_add_one, hp, List.map_append]
    exact ((IA.mono S4.tups).mono N).app (.cons (I4.mono N) .nil)
  · rintro H2 ⟨us, S2, hZ2, IA⟩
    rw [hxl, List.take_length] at IA
    exact done H2 us S2 hZ2 IA
/-! ### filled -/
abbrev Fl := List (Str × Say)
mutual
def Say.fill (fs : Fl) : Say → Say
  | .name x => (fs.lookup x).getD (.name x)
  | .skip => .skip
  | .app c w ps => .app c w (Say.fillA fs ps)
  | .two c a b => .two c (Say.fill fs a) (Say.fill fs b)
def Say.fillA (fs : Fl) : List Say → List Say
  | [] => []
  | s :: r => Say.fill fs s :: Say.fillA fs r
end
theorem Say.fillA_map {fs : Fl} : ∀ ps : List Say, Say.fillA fs ps = ps.map (Say.fill fs)
  | [] => rfl
  | s :: r => by simp only [Say.fillA, List.map_cons, Say.fillA_map r]
theorem Say.fill_app {fs : Fl} {c : Bool} {w : Str} {ps : List Say} : (Say.app c w ps).fill fs = .app c w (ps.map (Say.fill fs)) := by simp only [Say.fill, Say.fillA_map]
theorem Say.fill_two {fs : Fl} {c : Bool} {a b : Say} : (Say.two c a b).fill fs = .two c (a.fill fs) (b.fill fs) := by simp only [Say.fill]
theorem Say.fill_skip {fs : Fl} : Say.skip.fill fs = .skip := by simp only [Say.fill]
theorem Say.fill_name {fs : Fl} {x : Str} : (Say.name x).fill fs = (fs.lookup x).getD (.name x) := by simp only [Say.fill]
def pairDa (p : Str × Say) : Da := .tup [.str p.1, p.2.da]
def flDa (fs : Fl) : Da := .tup (fs.map pairDa)
def Say.parts : Say → List Say
  | .app _ _ ps => ps
  | .two _ a b => [a, b]
  | _ => []
def Say.withP : Say → List Say → Say
  | .app c w _, ps => .app c w ps
  | .two c _ _, [a, b] => .two c a b
  | s, _ => s
theorem Say.fill_parts {fs : Fl} {s : Say} (h : s.head ≠ "name") : s.fill fs = s.withP (s.parts.map (Say.fill fs)) := by
  cases s with
  | name x => exact absurd rfl h
  | skip => simp only [Say.fill, Say.withP]
  | app c w ps => rw [Say.fill_app]; rfl
  | two c a b => rw [Say.fill_two]; rfl
theorem Say.ok_parts {f : Str → Prop} {n : Nat} {s : Say} (h : Say.ok f (n + 1) s) : ∀ p ∈ s.parts, Say.ok f n p := by
  cases s with
  | name x => intro p hp; cases hp
  | skip => intro p hp; cases hp
  | app c w ps => exact h.2.2
  | two c a b =>
    intro p hp
    simp only [Say.parts, List.mem_cons, List.not_mem_nil, or_false] at hp
    rcases hp with rfl | rfl
    · exact h.2.1
    · exact h.2.2
theorem Say.parts_le {f : Str → Prop} {n : Nat} {s : Say} (h : Say.ok f (n + 1) s) : s.parts.length ≤ 3 := by
  cases s with
  | name x => exact Nat.zero_le _
  | skip => exact Nat.zero_le _
  | app c w ps => exact h.2.1
  | two c a b => show 2 ≤ 3; decide
theorem is_pair {H : Hp} {v : V} {p : Str × Say} (h : Is H v (pairDa p)) : ∃ a y, v = .ref a ∧ H a = some (.tup [.str p.1, y]) ∧ Is H y p.2.da := by
  cases h with
  | @tup a xs _ h1 h2 =>
    cases h2 with
    | cons p1 q1 =>
      cases q1 with
      | cons p2 q2 =>
        cases q2; cases p1
        exact ⟨a, _, rfl, h1, p2⟩
theorem is_fl {H : Hp} {v : V} {fs : Fl} (h : Is H v (flDa fs)) : ∃ a xs, v = .ref a ∧ H a = some (.tup xs) ∧ IsA H xs (fs.map pairDa) := by
  cases h with
  | @tup a xs _ h1 h2 => exact ⟨a, xs, rfl, h1, h2⟩
/-- a dict of the fills -/
def DR (H : Hp) (kvs : List (Key × V)) (fs : Fl) : Prop := ∀ x : Str, (∀ s, fs.lookup x = some s → ∃ u, valV kvs (Sum.inr x) = some u ∧ Is H u s.da) ∧ (fs.lookup x = none → valV kvs (Sum.inr x) = none)
theorem DR.mono {H H' : Hp} {kvs : List (Key × V)} {fs : Fl} (d : DR H kvs fs) (k : TupS H H') : DR H' kvs fs := fun x =>
  ⟨fun s hs => let ⟨u, h1, h2⟩ := (d x).1 s hs; ⟨u, h1, h2.mono k⟩, (d x).2⟩
theorem DR.snoc {H : Hp} {kvs : List (Key × V)} {fs : Fl} {x : Str} {s : Say} {u : V} (d : DR H kvs fs) (hn : fs.lookup x = none) (h : Is H u s.da) : DR H (putK kvs (Sum.inr x) u) (fs ++ [(x, s)]) := fun y => by
  rw [List.lookup_append, valV_put]
  by_cases e : y = x
  · subst e
    rw [hn, if_pos rfl]
    have e1 : List.lookup y [(y, s)] = some s := by simp [List.lookup]
    rw [e1]
    exact ⟨fun s' hs' => by
      have : s = s' := by simpa using hs'
      subst this
      exact ⟨u, rfl, h⟩, fun z => by simp at z⟩
  · have e0 : (y == x) = false := beq_eq_false_iff_ne.mpr e
    have e1 : List.lookup y [(x, s)] = none := by simp only [List.lookup, e0]
    have e2 : ¬ (Sum.inr y : Key) = Sum.inr x := fun z => e (Sum.inr.inj z)
    rw [e1, if_neg e2, Option.or_none]
    exact d y
theorem put_len {kvs : List (Key × V)} {k : Key} {v : V} : (putK kvs k v).length ≤ kvs.length + 1 := by
  unfold putK
  split
  · rw [List.length_map]; omega
  · rw [List.length_append]; exact Nat.le_refl _
theorem lookup_none_of {fs : Fl} {x : Str} (h : x ∉ fs.map Prod.fst) : fs.lookup x = none := by
  induction fs with
  | nil => rfl
  | cons p r ih =>
    simp only [List.map_cons, List.mem_cons, not_or] at h
    obtain ⟨y, s⟩ := p
    have e : (x == y) = false := beq_eq_false_iff_ne.mpr h.1
    simp only [List.lookup, e]
    exact ih h.2
theorem nodup_take {fs : Fl} (h : (fs.map Prod.fst).Nodup) {i : Nat} {p : Str × Say} (hp : fs[i]? = some p) : p.1 ∉ (fs.take i).map Prod.fst := by
  intro hm
  have hi : i < fs.length := (List.getElem?_eq_some_iff.mp hp).1
  have hpi : fs[i] = p := (List.getElem?_eq_some_iff.mp hp).2
  rw [List.mem_map] at hm
  obtain ⟨q, hq, hqe⟩ := hm
  rw [List.mem_take_iff_getElem] at hq
  obtain ⟨j, hj, hjq⟩ := hq
  have hji : j < i := by omega
  have hjl : j < fs.length := by omega
  have e1 : (fs.map Prod.fst)[j]? = some p.1 := by
    rw [List.getElem?_map, List.getElem?_eq_getElem hjl]
    show some (fs[j].1) = some p.1
    rw [hjq, hqe]
  have e2 : (fs.map Prod.fst)[i]? = some p.1 := by rw [List.getElem?_map, hp]; rfl
  exact absurd (nd_ix h e1 e2) (by omega)
theorem Say.fill_ok {fs : Fl} {k : Nat} (hk : ∀ p ∈ fs, Say.ok (fun _ => True) k p.2) : ∀ {n : Nat} {s : Say}, Say.ok (fun _ => True) n s → Say.ok (fun _ => True) (n + k) (s.fill fs)
  | 0, _, h => h.elim
  | n + 1, .name x, _ => by
    rw [Say.fill_name]
    cases hl : fs.lookup x with
    | none =>
      show Say.ok _ (n + 1 + k) (.name x)
      rw [show n + 1 + k = (n + k) + 1 by omega]
      exact True.intro
    | some s =>
      obtain ⟨l1, l2, e, _⟩ := List.lookup_eq_some_iff.mp hl
      exact Say.ok_mono (by omega) (hk (x, s) (by rw [e]; simp))
  | n + 1, .skip, _ => by
    rw [Say.fill_skip, show n + 1 + k = (n + k) + 1 by omega]
    exact True.intro
  | n + 1, .app c w ps, h => by
    rw [Say.fill_app, show n + 1 + k = (n + k) + 1 by omega]
    refine ⟨True.intro, by rw [List.length_map]; exact h.2.1, fun p hp => ?_⟩
    obtain ⟨q, hq, rfl⟩ := List.mem_map.mp hp
    exact Say.fill_ok hk (h.2.2 q hq)
  | n + 1, .two c a b, h => by
    rw [Say.fill_two, show n + 1 + k = (n + k) + 1 by omega]
    exact ⟨True.intro, Say.fill_ok hk h.2.1, Say.fill_ok hk h.2.2⟩
mutual
theorem Say.fill_nil : ∀ s : Say, s.fill [] = s
  | .name x => by rw [Say.fill_name]; rfl
  | .skip => Say.fill_skip
  | .app c w ps => by simp only [Say.fill, Say.fillA_nil ps]
  | .two c a b => by simp only [Say.fill, Say.fill_nil a, Say.fill_nil b]
theorem Say.fillA_nil : ∀ ps : List Say, Say.fillA [] ps = ps
  | [] => rfl
  | s :: r => by simp only [Say.fillA, Say.fill_nil s, Say.fillA_nil r]
end
end Nf

set_option Elab.async false
set_option linter.all false
set_option maxRecDepth 100000
namespace Nf
open PySem PySem.Spec PyProof.Rows L2
/-! ### enumerate of a tuple -/
abbrev enumObj (n : Addr) : Obj := { cls := .type "enumerate", data := .fields #[.none, .bool false, .ref n, rawInt 0, .none, .none] }
abbrev titObj (t : Addr) : Obj := { cls := .type "tuple_iterator", data := .fields #[.ref t, .int 0 0] }
set_option maxHeartbeats 1000000 in
theorem meets_enumT (t : Addr) (its : Array Value) : Meets (Builtin.«enumerate.__new__» ⟨[.type "enumerate", .ref t], []⟩)
    (fun _ R s => s.heap.IsTuple t its ∧ R (.ok (.ret (.ref (s.heap.push (titObj t)).objs.size))) { s with heap := (s.heap.push (titObj t)).push (enumObj s.heap.objs.size) }) :=
  .of_wp fun prog w A R s h => by
    obtain ⟨hp, gg, dr, tk, os⟩ := s
    obtain ⟨ht, h⟩ := h
    have hsub := sub_enumerate
    have it1 : ∀ {A2 : Around} {E2 : Value → Shared → Prop} {Q2 : Value → Shared → Prop}, Q2 (.ref hp.objs.size) ⟨hp.push (titObj t), gg, dr, tk, os⟩ → wpAny (model prog w) A2 (pyIter (.ref t)) Q2 E2 ⟨hp, gg, dr, tk, os⟩ :=
      fun q => (begins_tuple t its).iter prog w _ _ ⟨hp, gg, dr, tk, os⟩ _ ht q
    wp_walk using it1
    refine wpAny_stack_any fun st => wpAny_pure ?_
    split
    · rename_i cc _ _ _ _ _
      cases (cc == Value.type "enumerate") <;> (wp_walk using it1; exact ⟨_, rfl, h⟩)
    · wp_walk using it1
      exact ⟨_, rfl, h⟩
theorem call_enumT {prog : Program} {w : World} {A : Around} {E : Value → Shared → Prop} {s : Shared} {t : Addr} {its : Array Value} {Q : Value → Shared → Prop} (ht : s.heap.IsTuple t its)
    (h : ∀ h', IsEnum h' (s.heap.objs.size + 1) s.heap.objs.size 0 .none → h'.IsTupleIter s.heap.objs.size t 0 → h'.objs.size = s.heap.objs.size + 2 →
      (∀ b o, s.heap.get? b = some o → h'.get? b = some o) → Q (.ref (s.heap.objs.size + 1)) { s with heap := h' }) :
    wpAny (model prog w) A (call (.type "enumerate") [.ref t]) Q E s := by
  have hz : (s.heap.push (titObj t)).objs.size = s.heap.objs.size + 1 := Heap.size_push ..
  refine callType_new F.called_enumerate (by decide) (F.typeCall_enumerate_1 _) (F.newCall_enumerate_1 _)
    (fun obj => F.args_object_init_2 obj _) F.entry_enumerate_new (meets_enumT t its) ⟨ht, ?_⟩
  have he : IsEnum ((s.heap.push (titObj t)).push (enumObj s.heap.objs.size)) (s.heap.objs.size + 1) s.heap.objs.size 0 .none := by
    have q := Heap.get?_push_size (s.heap.push (titObj t)) (o := enumObj s.heap.objs.size) rfl
    rw [hz] at q
    exact q
  show _ ∧ _
  rw [hz]
  exact ⟨⟨_, he, rfl⟩, h _ he ⟨_, Heap.get?_push_of_some _ (Heap.get?_push_size _ rfl), rfl, rfl⟩ (by rw [Heap.size_push, hz])
    fun b o x => Heap.get?_push_of_some _ (Heap.get?_push_of_some _ x)⟩
theorem next_enumT_end {prog : Program} {w : World} {A : Around} {E : Value → Shared → Prop} {s : Shared} {e it l : Addr} {i : Nat} {n : Int} {its : Array Value} {old : Value} {Q : Option Value → Shared → Prop}
    (hh : A.handled = none) (he : IsEnum s.heap e it n old) (hit : s.heap.IsTupleIter it l i) (hl : s.heap.IsTuple l its) (hx : its[i]? = none)
    (hQ : ∀ h', Heap.ExtBut it s.heap h' → Q none { s with heap := h' }) : wpAny (model prog w) A (pyNext (.ref e)) Q E s := by
  have ty : s.TypeIs (.ref e) "enumerate" := ⟨_, he, rfl⟩
  unfold pyNext
  refine wpAny_bind (wpAny_attempt ?_)
  refine wpAny_callSpecial?_slot (name := Str.ofString "__next__") ty F.slot_enumerate_next ?_
  refine wpAny_call_entry F.slot_enumerate_next ty F.entry_enumerate_next ?_ (F.args_enumerate_next_1 _)
  show wpAny _ _ (field (.ref e) 2 >>= _) _ _ s
  refine wpAny_bind (wpAny_field he rfl (x := .ref it) rfl ?_)
  refine wpAny_bind (wpAny_nextOf_tuple_end hh hit hl hx fun h' z hk hz => ?_)
  obtain ⟨oz, hoz, hcz⟩ := hz
  exact wpAny_bind (wpAny_isInstance (T := "StopIteration") (b := true) ⟨oz, hoz, hcz⟩ isSubtype_stop (wpAny_pure (hQ _ hk)))
/-- the tuple at a, each item in a new pair -/
def IteT (K : PySem.W.Frag) (a : Addr) : It where
  go := fun i H => ∃ (xs : List V) (x : V), SqT K H a xs ∧ xs[i]? = some x
  yld := fun i H v H' => ∃ T x, v = .ref T ∧ H T = none ∧ H' = upd H T (.tup [.int (i : Nat), x]) ∧ ∀ xs, SqT K H a xs → xs[i]? = some x
  stop := fun i H => ∃ xs : List V, SqT K H a xs ∧ xs.length ≤ i
theorem turn_enumT {P : Program} {w : World} {K : PySem.W.Frag} {elts : List Expr} {kk : Nat} {tpos : Pos} (a e it : Addr) (hae : a ≠ it) (hae2 : a ≠ e) :
    Turn P w K (.Tuple elts kk tpos) (IteT K a) [e, it] e (fun i h => (∃ old, IsEnum h e it ((i : Nat) : Int) old) ∧ h.IsTupleIter it a i ∧ e ≠ it) where
  mem := by simp
  obj := fun i h st b hb => by
    obtain ⟨⟨old, he⟩, ⟨o, ho, hc, hd⟩, _⟩ := st
    rcases (show b = e ∨ b = it by simpa using hb) with z | z
    · exact z ▸ ⟨_, he, fun v q => nomatch q⟩
    · exact z ▸ ⟨o, ho, fun v q => by rw [hd] at q; cases q⟩
  keep := fun i h h' st k => ⟨st.1.imp fun old he => k e (by simp) _ he, st.2.1.at fun o q => k it (by simp) o q, st.2.2⟩
  item := by
    intro X hP hw hK hc i pins s σ H E I hf st hg
    subst hP hw hK
    obtain ⟨⟨old, he⟩, hit, hne⟩ := st
    obtain ⟨xs, x, hq, hx⟩ := hg
    obtain ⟨its, rv, p, hz⟩ := I.tuple hq
    obtain ⟨u, hu, ru⟩ := rv.get hx
    have hel : e < s.heap.objs.size := Heap.lt_size he
    have hil : it < s.heap.objs.size := by obtain ⟨_, q, _⟩ := hit; exact Heap.lt_size q
    have hlt : i < its.toArray.size := by
      have := (List.getElem?_eq_some_iff.mp hu).1
      simpa using this
    have hef : e ∉ [it, a] := by
      intro m
      rcases (show e = it ∨ e = a by simpa using m) with z | z
      · exact hne z
      · exact hae2 z.symm
    refine wpAny_pyNext_enum_itemD (Draws.tuple (A := X.A.in1) (show X.A.in1.handled = none from I.ok.hd hc) it a hae its.toArray) he ⟨hit, p⟩ hlt hne hef fun y h' tk hy ho hit' hT hsz hk => ?_
    have ey : y = u := by
      have h1 : its[i]? = some y := by simpa using hy
      rw [hu] at h1
      exact (Option.some.inj h1).symm
    subst ey
    refine ⟨_, rfl, wpAny_letOwnedTupleGo_enum (s := { s with heap := h', toks := tk + 1 }) ho fun h'' he' sb => ?_⟩
    have hT2 : h''.get? s.heap.objs.size = some { cls := .type "tuple", data := .seq #[.int i tk, y] } := (sb.2 _ (Nat.ne_of_gt hel)).trans hT
    have new : ObjOk X.prog X.w (upd H s.heap.objs.size (.tup [.int (i : Nat), x])) h'' s.heap.objs.size (.tup [.int (i : Nat), x]) :=
      ⟨by show 2 ≤ sizeLine; decide, [.int i tk, y], .cons ⟨_, rfl⟩ (.cons ru .nil), ⟨_, hT2, rfl, _, rfl⟩⟩
    have I1 : Inv X pins σ (upd H s.heap.objs.size (.tup [.int (i : Nat), x])) { s with heap := h'', toks := tk + 1 } :=
      I.turnedNew (ch := [e, it]) (fun b ob hb q => by
        have nb : b ≠ e ∧ b ≠ it := by simpa using hb
        exact (sb.2 b nb.1).trans (hk b ob nb.1 nb.2 q)) hf (Nat.le_refl _) new
    refine ⟨.ref s.heap.objs.size, _, I1, rfl, ⟨_, x, rfl, I.hok.fresh (Nat.le_refl _), rfl, fun ys hy => by rw [I.tuple_inj hy hq]; exact hx⟩, ⟨⟨y, ?_⟩, hit'.1.at fun o q => (sb.2 it (Ne.symm hne)).trans q, hne⟩, fun b hb => ?_⟩
    · rw [show ((i + 1 : Nat) : Int) = (i : Int) + 1 by omega]
      exact he'
    · have hb' : b < s.heap.objs.size := by
        rcases (show b = e ∨ b = it by simpa using hb) with z | z
        · exact z ▸ hel
        · exact z ▸ hil
      rw [upd_ne (Nat.ne_of_lt hb')]
      exact (hf b hb).1
  done := by
    intro X hP hw hK hc i pins s σ H E I hf st hg
    subst hP hw hK
    obtain ⟨⟨old, he⟩, hit, hne⟩ := st
    obtain ⟨xs, hq, hx⟩ := hg
    obtain ⟨its, rv, p, hz⟩ := I.tuple hq
    obtain ⟨f0, f1, f2, f3, f4, f5⟩ := hf it (by simp)
    have hl := rv.length
    exact next_enumT_end (I.ok.hd hc) he hit p (by simp; omega) fun h' eb => ⟨rfl, I.turned (t' := s.toks) (fun b o hb q => eb b o hb q) f0 f1 f3 f4 f5⟩
  self := fun A i s Q E st h => by
    obtain ⟨⟨_, he⟩, _⟩ := st
    exact wpAny_pyIter_enum he h
def iEnumT (K : PySem.W.Frag) (ta : TA) : TI := fun σ H R => ta σ H fun vs H1 => ∃ a xs, vs = [.ref a] ∧ SqT K H1 a xs ∧ R (IteT K a) H1
theorem pi_enumT {X : Cx} {e : Expr} {ta : TA} {p pos tpos : Pos} {elts : List Expr} {kk : Nat} (hg : Gl X "enumerate") (hm : X.mg "enumerate" = none) (ha : PA X [e] ta)
    (hs : starEach [e] X.env = [(false, eval e X.env)] := by rfl) : PI X (.Tuple elts kk tpos) (.Call (.Name "enumerate" p) [e] [] pos) (iEnumT X.K ta) := by
  refine ⟨fun pins s σ H R I h => ?_⟩
  refine Call_ (ld_blt I hg hm boot_enumerate (callWith_type1 (thn (ha.run pos pins s σ H _ I h) fun us s1 ⟨vs, H1, I1, r1, q1⟩ => ?_) hs rfl))
  obtain ⟨a, xs, ex, hq, q⟩ := q1
  subst ex
  cases r1 with
  | cons r rr =>
    cases rr
    cases r
    obtain ⟨its, rv, pt, hz⟩ := I1.tuple hq
    have hal : a < s1.heap.objs.size := by
      obtain ⟨o, ho, _⟩ := id pt
      exact Heap.lt_size ho
    refine call_enumT (its := its.toArray) pt fun h' he hit hsz hk => wpAny_pyIter_enum he ?_
    have I2 : Inv X pins σ H1 { s1 with heap := h' } := I1.kept (t' := s1.toks) hk
    refine ⟨s1.heap.objs.size + 1, [s1.heap.objs.size + 1, s1.heap.objs.size], _, _, H1, rfl, I2, turn_enumT a (s1.heap.objs.size + 1) s1.heap.objs.size (Nat.ne_of_lt hal) (Nat.ne_of_lt (Nat.lt_succ_of_lt hal)), ⟨⟨.none, he⟩, hit, Nat.succ_ne_self _⟩, fun b hb => ?_, q⟩
    have hle : s1.heap.objs.size ≤ b := by
      rcases (show b = s1.heap.objs.size + 1 ∨ b = s1.heap.objs.size by simpa using hb) with z | z
      · exact z ▸ Nat.le_succ _
      · exact z ▸ Nat.le_refl _
    exact I1.fpOk hle (I1.hok.fresh hle)
theorem walk_enumT {K : PySem.W.Frag} {a : Addr} {xs : List V} : Walk (IteT K a) xs.length (fun H => SqT K H a xs) (YPair (fun i => some (.int (i : Nat))) (fun i => xs[i]?)) := by
  refine ⟨fun i _ hi q => ⟨xs, xs[i], q, by simp [hi]⟩, fun _ q => ⟨xs, q, Nat.le_refl _⟩, fun i H v H' _ q y => ?_⟩
  obtain ⟨T, x, h1, h2, h3, h4⟩ := y
  exact ⟨T, .int (i : Nat), x, h1, h2, h3, rfl, h4 xs q⟩
end Nf

set_option Elab.async false
set_option linter.all false
set_option maxRecDepth 100000
namespace Nf
open PySem L2
def top (i : Nat) : Stmt := PySem.Challenge.pw_needfill_k03_filled.main.body.getD i (.Pass ⟨0, 0, 0, 0⟩)
abbrev FnP (K : PySem.W.Frag) (x : Str) (st : Stmt) (f : Addr) (fd : FuncData) : Prop := FunD K x x (defArgs st) (defBody st) (defScope st) [] [] f fd
/-- a def that stands where it is called -/
structure Cal (K : PySem.W.Frag) (mg : Str → Option Value) (x : Str) (st : Stmt) (ps : List Str) (f : Addr) (fd : FuncData) : Prop where
  F : FnP K x st f fd
  m : mg x = some (.ref f)
  b : Binds K fd ps []
/-- the built-ins' names are free -/
structure Bt (mg : Str → Option Value) : Prop where
  t_len : mg "len" = none
  t_abs : mg "abs" = none
  t_range : mg "range" = none
  t_zip : mg "zip" = none
  t_isinstance : mg "isinstance" = none
  t_all : mg "all" = none
  t_tuple : mg "tuple" = none
  t_str : mg "str" = none
  t_int : mg "int" = none
  t_bool : mg "bool" = none
  t_enumerate : mg "enumerate" = none
  t_list : mg "list" = none
  t_dict : mg "dict" = none
  t_any : mg "any" = none
section
variable {P : Program} {w : World} {K : PySem.W.Frag} {mg : Str → Option Value} {base : Heap} {f fn : Addr} {fd fnd : FuncData}
/-! ### the deck made -/
abbrev s_deck : Stmt := top 6
abbrev N_deck : List Str := ["_law_script", "_law_digits", "_law_cells", "_law_cell"]
abbrev P_deck : List Str := ["_law_script"]
theorem sc_deck : FnScope N_deck P_deck (defScope s_deck) := ⟨rfl, rfl, rfl, by decide +kernel, rfl, by decide +kernel, by decide +kernel⟩
def spDeck (K : PySem.W.Frag) : Sp := fun vs H Q _ => ∃ (a : Addr) (ns : List Int), vs = [.ref a] ∧ SqL K H a (ns.map V.int) ∧ ns.length ≤ 63 ∧
  ∀ d g c H', Deck H' d g c 0 → Same H H' → H d = none → H g = none → H c = none → Q (.ref d) H'
theorem ok_deck (T : Bt mg) (C_deck : Cal K mg "_law_deck" s_deck P_deck f fd) : FnOk P w K mg base CX0 1 f fd P_deck (spDeck K) := by
  refine C_deck.F.ok sc_deck (fun vs H Q E h => ?_) (fun cdv A outer s H vs Q E hr h => ?_)
  · obtain ⟨a, ns, rfl, _⟩ := h
    rfl
  obtain ⟨a, ns, rfl, hS, h63, q⟩ := h
  refine ⟨_, PSs.nox (pss_cons (ps_set (i := 1) sc_deck.nd rfl (Or.inl rfl) (pe_lst pa_nil))
    (pss_cons (ps_set (i := 2) sc_deck.nd rfl (Or.inl rfl) (pe_lst (pa_cons (pe_callB call_len_seq (by rfl) T.t_len (by decide +kernel) (pa_cons (pv 0) pa_nil)) pa_nil)))
    (pss_cons (ps_for PassesOwn.never (by rfl) (pi_list (pe_slice sl_list (pv 0) po_none (po_some pe_int))) (pg_name (i := 3) sc_deck.nd rfl (Or.inl rfl)) (pss_cons (ps_set (i := 3) sc_deck.nd rfl (Or.inl rfl) (pe_callB call_abs (by rfl) T.t_abs (by decide +kernel) (pa_cons (pv 3) pa_nil)))
    (pss_cons (ps_expr (pe_bm PySem.F.plainAttrs_list PySem.F.slot_list_append PySem.F.type_list_append mt_append (pv 2) (pa_cons (pe_op op_mod (pv 3) pe_int) pa_nil)))
    (pss_one (ps_while PassesOwn.never (PW.pt (pw_and (pt_cmpR op_ge (pv 3) (pe_op op_pow pe_int pe_int) (nomark _)) (pw_and1 (pt_cmpR op_lt (pe_callB call_len_seq (by rfl) T.t_len (by decide +kernel) (pa_cons (pv 1) pa_nil)) pe_int (nomark _))))) (pss_cons (ps_expr (pe_bm PySem.F.plainAttrs_list PySem.F.slot_list_append PySem.F.type_list_append mt_append (pv 1) (pa_cons (pe_op op_mod (pv 3) pe_int) pa_nil)))
    (pss_one (ps_set (i := 3) sc_deck.nd rfl (Or.inl rfl) (pe_op op_fdivW (pv 3) pe_int)))))))))
    (pss_one (ps_ret (pe_lst (pa_cons (pv 1) (pa_cons (pv 2) (pa_cons pe_int pa_nil))))))))), ?_⟩
  have hl : (ns.map V.int).length = ns.length := List.length_map _
  refine ⟨by show 0 ≤ sizeLine; decide, fun g hg => ?_⟩
  have S1 := same_new hg (.lst [])
  refine ⟨_, rfl, a, _, rfl, .inl (S1.seq hS), by show 1 ≤ sizeLine; decide, fun c hc => ?_⟩
  have S2 := S1.new hc (o := .lst [.int (ns.map V.int).length])
  have hgc : g ≠ c := ne_of_none upd_same hc
  refine ⟨_, rfl, _, rfl, a, _, rfl, S2.seq hS, fun p hp => ?_⟩
  have ecut : cutV (ns.map V.int) none (some 63) = ns.map V.int := by
    show ((ns.map V.int).drop 0).take ((HT.sIx (ns.map V.int).length (ns.map V.int).length (some ((63 : Nat) : Int))) - 0) = _
    rw [HT.sIx_nat, hl, List.drop_zero, Nat.sub_zero, Nat.min_eq_right h63]
    exact List.take_of_length_le (by rw [hl]; exact Nat.le_refl _)
  rw [ecut]
  have hg2 : H g = none := hg
  have hcn : H c = none := S1.free hc
  have hpn : H p = none := S2.free hp
  have hpg : g ≠ p := ne_of_none (show (upd (upd H g (.lst [])) c (.lst [.int (ns.map V.int).length])) g = some (.lst []) by rw [upd_ne hgc]; exact upd_same) hp
  have hpc : c ≠ p := ne_of_none upd_same hp
  refine ⟨p, rfl, ⟨_, SqL.of upd_same⟩, for_list (xs := ns.map V.int) (fun i σ H' => ∃ (ds cs : List Int) (x : Option V), σ = [some (.ref a), some (.ref g), some (.ref c), x] ∧ H' g = some (.lst (ds.map V.int)) ∧ H' c = some (.lst (cs.map V.int)) ∧ H' p = some (.lst (ns.map V.int)) ∧ ds.length ≤ 900 ∧ (∀ x ∈ ds, 0 ≤ x ∧ x < MM) ∧ cs.length = i + 1 ∧ (∀ x ∈ cs, 0 ≤ x ∧ x < MM) ∧ Same H H') ?_ ?_ ?_ ?_⟩
  · refine ⟨[], [(ns.length : Int)], _, rfl, ?_, ?_, upd_same, by decide, by simp, rfl, ?_, (S2.new hp)⟩
    · rw [upd_ne hpg, upd_ne hgc]; exact upd_same
    · rw [upd_ne hpc, hl]; exact upd_same
    · intro x hx
      simp only [List.mem_singleton] at hx
      subst hx
      exact ⟨by omega, by show (ns.length : Int) < 2147483629; omega⟩
  · rintro i σ H' _ ⟨ds, cs, x, _, _, _, h3, _⟩
    exact SqL.of h3
  · rintro i x σ H' hx ⟨ds, cs, x0, rfl, h1, h2, h3, hd9, hds, hcl, hcs, hSm⟩
    rw [List.getElem?_map] at hx
    obtain ⟨n, hn, rfl⟩ := Option.map_eq_some_iff.mp hx
    have hin : i < ns.length := (List.getElem?_eq_some_iff.mp hn).1
    refine ⟨_, rfl, n, rfl, ?_⟩
    have h0 : (0 : Int) ≤ (if n < 0 then -n else n) := by split <;> omega
    generalize (if n < 0 then -n else n) = m at h0
    refine ⟨_, rfl, .inl ⟨rfl, _, SqL.of h2⟩, _, rfl, _, _, rfl, rfl, by show (0 : Int) < 2147483629; decide, c, _, _, rfl, rfl, h2, small1000 (by rw [List.length_map, hcl]; omega), ?_⟩
    have S3 : Same H (upd H' c (.lst (cs.map V.int ++ [.int (m % 2147483629)]))) := hSm.mutN hcn
    refine while_by (fun σ H' => ∃ (ds : List Int) (k : Int), σ = [some (.ref a), some (.ref g), some (.ref c), some (.int k)] ∧ 0 ≤ k ∧ H' g = some (.lst (ds.map V.int)) ∧ H' c = some (.lst ((cs ++ [m % 2147483629]).map V.int)) ∧ H' p = some (.lst (ns.map V.int)) ∧ ds.length ≤ 900 ∧ (∀ x ∈ ds, 0 ≤ x ∧ x < MM) ∧ Same H H') (fun σ _ => match σ with | [_, _, _, some (.int k)] => k.toNat | _ => 0) ?_ ?_ ?_
    · refine ⟨ds, m, rfl, h0, ?_, ?_, ?_, hd9, hds, S3⟩
      · rw [upd_ne hgc]; exact h1
      · rw [upd_same, List.map_append]; rfl
      · rw [upd_ne (Ne.symm hpc)]; exact h3
    · rintro σ H1 ⟨es, k, rfl, hk0, e1, e2, e3, he9, hes, hS1⟩
      have fin : (∃ (ds cs : List Int) (x : Option V), ([some (.ref a), some (.ref g), some (.ref c), some (.int k)] : List (Option V)) = [some (.ref a), some (.ref g), some (.ref c), x] ∧ H1 g = some (.lst (ds.map V.int)) ∧ H1 c = some (.lst (cs.map V.int)) ∧ H1 p = some (.lst (ns.map V.int)) ∧ ds.length ≤ 900 ∧ (∀ x ∈ ds, 0 ≤ x ∧ x < MM) ∧ cs.length = (i + 1) + 1 ∧ (∀ x ∈ cs, 0 ≤ x ∧ x < MM) ∧ Same H H1) := by
        refine ⟨es, cs ++ [m % 2147483629], _, rfl, e1, e2, e3, he9, hes, by rw [List.length_append, hcl]; rfl, ?_, hS1⟩
        intro x hx
        rcases List.mem_append.mp hx with hx | hx
        · exact hcs x hx
        · simp only [List.mem_singleton] at hx
          subst hx
          exact mod_range (by decide)
      refine ⟨_, rfl, _, _, rfl, rfl, ⟨by decide, by decide, by decide⟩, _, _, rfl, rfl, _, rfl, ?_⟩
      refine ite2 (fun c1 => ?_) (fun c1 => ?_)
      · have c1' : ((10 : Int) ^ (18 : Int).toNat) ≤ k := of_decide_eq_true c1
        refine ⟨_, rfl, g, _, rfl, .inl (SqL.of e1), _, _, rfl, rfl, _, rfl, ?_⟩
        refine ite2 (fun c2 => ?_) (fun c2 => ?_)
        · have c2' : (((es.map V.int).length : Nat) : Int) < 900 := of_decide_eq_true c2
          rw [List.length_map] at c2'
          refine ⟨_, rfl, .inl ⟨rfl, _, SqL.of e1⟩, _, rfl, _, _, rfl, rfl, by show (0 : Int) < 2147483629; decide, g, _, _, rfl, rfl, e1, small1000 (by rw [List.length_map]; omega), ?_⟩
          refine ⟨_, rfl, _, _, rfl, rfl, wide_div (b := 32) (by decide) (by decide) (by decide) (by decide), ?_⟩
          refine ⟨⟨es ++ [k % 2147483629], k / 2147483629, rfl, ?_, ?_, ?_, ?_, ?_, ?_, hS1.mutN hg2⟩, ?_⟩
          · exact Int.ediv_nonneg hk0 (by decide)
          · rw [upd_same, List.map_append]; rfl
          · rw [upd_ne (Ne.symm hgc)]; exact e2
          · rw [upd_ne (Ne.symm hpg)]; exact e3
          · rw [List.length_append, List.length_singleton]; omega
          · intro x hx
            rcases List.mem_append.mp hx with hx | hx
            · exact hes x hx
            · simp only [List.mem_singleton] at hx
              subst hx
              exact mod_range (by decide)
          · show (k / 2147483629).toNat < k.toNat
            have e18 : ((10 : Int) ^ (18 : Int).toNat) = 1000000000000000000 := by decide
            rw [e18] at c1'
            omega
        · exact fin
      · exact fin
    · exact fun σ H Q Q' hm h => by
        obtain ⟨v, hv, i1, j1, a1, a2, a3, i2, j2, a4, a5, k1, a6, a7⟩ := h
        refine ⟨v, hv, i1, j1, a1, a2, a3, i2, j2, a4, a5, k1, a6, ?_⟩
        revert a7
        refine fun a7 => ?_
        cases k1 with
        | true =>
          obtain ⟨v, hv, p, ys, b1, b2, i3, j3, b3, b4, k2, b5, b6⟩ := (show _ from a7)
          exact ⟨v, hv, p, ys, b1, b2, i3, j3, b3, b4, k2, b5, hm _ _ b6⟩
        | false => exact hm _ _ a7
  · rintro σ H' ⟨ds, cs, x0, rfl, h1, h2, h3, hd9, hds, hcl, hcs, hSm⟩
    refine ⟨_, rfl, _, rfl, by show 3 ≤ sizeLine; decide, fun d hd => ?_⟩
    have hdg : d ≠ g := (ne_of_none h1 hd).symm
    have hdc : d ≠ c := (ne_of_none h2 hd).symm
    refine q d g c _ ⟨hdg, hdc, hgc, ⟨0, upd_same, Nat.le_refl _⟩, ⟨ds, by rw [upd_ne (Ne.symm hdg)]; exact h1, hds⟩, ⟨cs, by rw [upd_ne (Ne.symm hdc)]; exact h2, by omega, by rw [hcl, hl]; omega, hcs⟩⟩ (hSm.new hd) (hSm.free hd) hg2 hcn
theorem dpAll_ints (K : PySem.W.Frag) (H : Hp) : ∀ ds : List Int, DpAll K H (ds.map V.int) (ds.map PyData.int)
  | [] => .nil
  | x :: r => .cons (.int x) (dpAll_ints K H r)
/-! ### the next number of the deck -/
abbrev s_next : Stmt := top 7
abbrev N_next : List Str := ["_law_deck_here", "_law_at", "_law_cell"]
abbrev P_next : List Str := ["_law_deck_here"]
theorem sc_next : FnScope N_next P_next (defScope s_next) := ⟨rfl, rfl, rfl, by decide +kernel, rfl, by decide +kernel, by decide +kernel⟩
def spNext : Sp := fun vs H Q _ => ∃ (d g c : Addr) (n : Nat), vs = [.ref d] ∧ Deck H d g c n ∧ n < 2 ^ 40 ∧
  ∀ k H', 0 ≤ k → k < MM → Deck H' d g c (n + 1) → Keep [d, g, c] H H' → Q (.int k) H'
theorem ok_next (T : Bt mg) (C_next : Cal K mg "_law_next" s_next P_next f fd) : FnOk P w K mg base CX0 1 f fd P_next spNext := by
  refine C_next.F.ok sc_next (fun vs H Q E h => ?_) (fun cdv A outer s H vs Q E hr h => ?_)
  · obtain ⟨d, g, c, n, rfl, _⟩ := h
    rfl
  obtain ⟨d, g, c, n, rfl, D, hn, q⟩ := h
  refine ⟨_, PSs.nox (pss_cons (ps_if (pt_cmpR (op_neD hr.units) (pe_ix ix_list (pv 0) pe_int (fun _ _ => rfl)) (pe_lst pa_nil) (nomark _)) (pss_one (ps_ret (pe_bm PySem.F.plainAttrs_list PySem.F.slot_list_pop PySem.F.type_list_pop mt_popAt (pe_ix ix_list (pv 0) pe_int (fun _ _ => rfl)) (pa_cons pe_int pa_nil)))) pss_nil)
    (pss_cons (ps_set (i := 1) sc_next.nd rfl (Or.inl rfl) (pe_ix ix_list (pv 0) pe_int (fun _ _ => rfl)))
    (pss_cons (ps_asg (pe_op op_add (pv 1) pe_int) (pg_sub (pv 0) pe_int set_list))
    (pss_cons (ps_set (i := 2) sc_next.nd rfl (Or.inl rfl) (pe_op op_add (pe_ix ix_list (pe_ix ix_list (pv 0) pe_int (fun _ _ => rfl)) (pe_op op_mod (pe_op op_add (pv 1) pe_int) (pe_callB call_len_seq (by rfl) T.t_len (by decide +kernel) (pa_cons (pe_ix ix_list (pv 0) pe_int (fun _ _ => rfl)) pa_nil))) (fun _ _ => rfl)) (pe_op op_mul pe_int (pv 1))))
    (pss_one (ps_ret (pe_op op_mod (pe_op op_add (pe_op op_mod (pe_op op_pow (pe_op op_add (pv 2) (pe_op op_mul pe_int (pe_op op_add (pv 1) pe_int))) pe_int) pe_int) (pe_op op_mul pe_int (pv 2))) pe_int))))))), ?_⟩
  obtain ⟨k, h1, hk⟩ := D.hd
  obtain ⟨ds, h2, hds⟩ := D.hg
  obtain ⟨cs, h3, hc0, hc64, hcs⟩ := D.hc
  refine ⟨_, rfl, d, _, _, _, rfl, rfl, SqL.of h1, rfl, ?_⟩
  refine ⟨by show 0 ≤ sizeLine; decide, fun p hp => ?_⟩
  have hpD := D.not_new hp
  have hdp : d ≠ p := ne_of_none h1 hp
  have hgp : g ≠ p := ne_of_none h2 hp
  have hcp : c ≠ p := ne_of_none h3 hp
  have h1' : (upd H p (.lst [])) d = some (.lst [.ref g, .ref c, .int k]) := by rw [upd_ne hdp]; exact h1
  have h2' : (upd H p (.lst [])) g = some (.lst (ds.map V.int)) := by rw [upd_ne hgp]; exact h2
  have h3' : (upd H p (.lst [])) c = some (.lst (cs.map V.int)) := by rw [upd_ne hcp]; exact h3
  have k1 : Keep [d, g, c] H (upd H p (.lst [])) := (Keep.refl _ _).new hp
  refine ⟨.list (ds.map PyData.int), .list [], .lst (SqL.of h2') (dpAll_ints _ _ ds), .lst (SqL.of upd_same) .nil, PySem.W.shaped_ints ds, rfl, _, rfl, ?_⟩
  have ek : PyData.eqv (.list (ds.map PyData.int)) (.list []) = ds.isEmpty := by cases ds <;> rfl
  rw [ek]
  refine ite2 (fun c1 => ?_) (fun c1 => ?_)
  · cases ds with
    | nil => cases c1
    | cons x r =>
      refine ⟨_, rfl, d, _, _, _, rfl, rfl, SqL.of h1', rfl, .inl ⟨rfl, _, SqL.of h2'⟩, g, _, 0, 0, .int x, rfl, rfl, h2', by decide, by decide, ?_, rfl, ?_⟩
      · show (if (0 ≤ (0 : Int) && (0 : Int) < (((x :: r).map V.int).length : Nat)) then some (0 : Int).toNat else none) = some 0
        rw [if_pos]
        · rfl
        · simp
      · refine q x _ (hds x (by simp)).1 (hds x (by simp)).2 ⟨D.ne1, D.ne2, D.ne3, ⟨k, ?_, by omega⟩, ⟨r, ?_, fun y hy => hds y (by simp [hy])⟩, ⟨cs, ?_, hc0, hc64, hcs⟩⟩ (k1.mut (by simp))
        · rw [upd_ne D.ne1]; exact h1'
        · exact upd_same
        · rw [upd_ne (Ne.symm D.ne3)]; exact h3'
  · refine ⟨_, rfl, d, _, _, _, rfl, rfl, SqL.of h1', rfl, ?_⟩
    refine ⟨_, rfl, _, _, rfl, rfl, _, rfl, d, _, _, 2, rfl, rfl, h1', rfl, ?_⟩
    have h1'' : upd (upd H p (.lst [])) d (.lst ([V.ref g, .ref c, .int k].set 2 (.int ((k : Int) + 1)))) d = some (.lst [.ref g, .ref c, .int ((k : Int) + 1)]) := upd_same
    have h3'' : upd (upd H p (.lst [])) d (.lst ([V.ref g, .ref c, .int k].set 2 (.int ((k : Int) + 1)))) c = some (.lst (cs.map V.int)) := by rw [upd_ne (Ne.symm D.ne2)]; exact h3'
    have h2'' : upd (upd H p (.lst [])) d (.lst ([V.ref g, .ref c, .int k].set 2 (.int ((k : Int) + 1)))) g = some (.lst (ds.map V.int)) := by rw [upd_ne (Ne.symm D.ne1)]; exact h2'
    have k2 : Keep [d, g, c] H (upd (upd H p (.lst [])) d (.lst ([V.ref g, .ref c, .int k].set 2 (.int ((k : Int) + 1))))) := k1.mut (by simp)
    generalize upd (upd H p (.lst [])) d (.lst ([V.ref g, .ref c, .int k].set 2 (.int ((k : Int) + 1)))) = H2 at h1'' h2'' h3'' k2
    have hcl : (0 : Int) < (((cs.map V.int).length : Nat) : Int) := by rw [List.length_map]; omega
    obtain ⟨v, hv, hvm⟩ := at_int (ns := cs) (i := ((k : Int) + 1) % (((cs.map V.int).length : Nat) : Int)) (mod_range hcl).1 (by have := (mod_range (k := (k : Int) + 1) hcl).2; rw [List.length_map] at this; rw [List.length_map]; exact this)
    obtain ⟨hv0, hv1⟩ := hcs v hvm
    refine ⟨_, rfl, d, _, _, _, rfl, rfl, SqL.of h1'', rfl, ?_⟩
    refine ⟨_, rfl, _, _, rfl, rfl, ?_⟩
    refine ⟨_, rfl, d, _, _, _, rfl, rfl, SqL.of h1'', rfl, c, _, rfl, .inl (SqL.of h3''), _, _, rfl, rfl, hcl, c, _, _, _, rfl, rfl, SqL.of h3'', hv, ?_⟩
    refine ⟨_, rfl, _, _, rfl, rfl, .inl ⟨by decide, by decide⟩, _, _, rfl, rfl, ?_⟩
    refine ⟨_, rfl, _, rfl, _, _, rfl, rfl, _, _, rfl, rfl, .inl ⟨by decide, by decide⟩, _, _, rfl, rfl, _, _, rfl, rfl, ⟨by decide, by decide, ?_⟩, _, _, rfl, rfl, by show (0 : Int) < 2147483647; decide, ?_⟩
    · show (v + 7 * (k : Int) + 48271 * ((k : Int) + 1)).natAbs < 2 ^ 64
      have : (v : Int) < 2147483629 := hv1
      omega
    · refine ⟨_, rfl, _, _, rfl, rfl, .inl ⟨by decide, by decide⟩, _, _, rfl, rfl, _, _, rfl, rfl, by show (0 : Int) < 2147483629; decide, ?_⟩
      exact q _ _ (mod_range (by decide)).1 (mod_range (by decide)).2 ⟨D.ne1, D.ne2, D.ne3, ⟨k + 1, h1'', by omega⟩, ⟨ds, h2'', hds⟩, ⟨cs, h3'', hc0, hc64, hcs⟩⟩ k2
end
end Nf


set_option Elab.async false
set_option linter.all false
set_option maxRecDepth 100000
namespace Nf
open PySem L2
section
variable {P : Program} {w : World} {K : PySem.W.Frag} {mg : Str → Option Value} {base : Heap} {f fn : Addr} {fd fnd : FuncData}
/-! ### alike -/
local macro_rules | `(tactic| walk_at "isi") => `(tactic| first
  | refine ⟨_, rfl, _, _, _, _, true, rfl, .ty _, (by assumption), kit_ty (by decide +kernel), ?_⟩
  | refine ⟨_, rfl, _, _, _, _, false, rfl, .ty _, (by assumption), kit_ty (by decide +kernel), ?_⟩)
local macro_rules | `(tactic| walk_at "isit") => `(tactic| (walk_at "isi"; refine ⟨_, rfl, ?_⟩; first | refine iteT ?_ | refine iteF ?_))
abbrev s_same : Stmt := top 8
abbrev N_same : List Str := ["_law_found", "_law_due", "_law_one", "_law_other"]
abbrev P_same : List Str := ["_law_found", "_law_due"]
theorem sc_same : FnScope N_same P_same (defScope s_same) := ⟨rfl, rfl, rfl, by decide +kernel, rfl, by decide +kernel, by decide +kernel⟩
def spSame (n : Nat) : Sp := fun vs H Q _ => ∃ (x y : V) (d e : Da), vs = [x, y] ∧ Is H x d ∧ Is H y e ∧ Da.dep n e ∧
  ∀ H', Same H H' → Q (.bl (Da.eq d e)) H'
theorem ok_same (T : Bt mg) (C_same : Cal K mg "_law_same" s_same P_same f fd) : ∀ n : Nat, FnOk P w K mg base CX0 n f fd P_same (spSame n)
  | 0 => fn_never fun vs H Q E ⟨_, _, _, _, _, _, _, h, _⟩ => h
  | n + 1 => by
    have G_same := ok_same T C_same n
    refine C_same.F.ok sc_same (fun vs H Q E h => ?_) (fun cdv A outer s H vs Q E hr h => ?_)
    · obtain ⟨x, y, d, e, rfl, _⟩ := h
      rfl
    obtain ⟨x, y, d, e, rfl, hx, hy, hdep, q⟩ := h
    refine ⟨_, PSs.nox (pss_cons (ps_if (pt_val (pe_callB call_isi (by rfl) T.t_isinstance (by decide +kernel) (pa_cons (pv 1) (pa_cons (pe_bltn (v := .ty "tuple") (by rfl) T.t_tuple (by decide +kernel) rfl) pa_nil)))) (pss_cons (ps_if (PW.pt (pw_or (pt_not (pt_val (pe_callB call_isi (by rfl) T.t_isinstance (by decide +kernel) (pa_cons (pv 0) (pa_cons (pe_bltn (v := .ty "tuple") (by rfl) T.t_tuple (by decide +kernel) rfl) pa_nil))))) (pw_or1 (pt_cmpR op_ne (pe_callB call_len_seq (by rfl) T.t_len (by decide +kernel) (pa_cons (pv 0) pa_nil)) (pe_callB call_len_seq (by rfl) T.t_len (by decide +kernel) (pa_cons (pv 1) pa_nil)) (nomark _))))) (pss_one (ps_ret pe_bl)) pss_nil)
      (pss_one (ps_ret (pe_callB (cr_all rfl) (by rfl) T.t_all (by decide +kernel) (pa_cons (pe_lc (own := [("_law_one", 2), ("_law_other", 3)]) (g := gTup _ 2 (gCons (gName 2) (gCons (gName 3) gNil))) (tt := tYes) (by rfl) sc_same.nd (RZ.pi_zipA (by rfl) T.t_zip (pa_cons (pv 0) (pa_cons (pv 1) pa_nil))) (blkOk_by (own := [("_law_one", 2), ("_law_other", 3)]) (N := N_same) (sc := defScope s_same) (by decide +kernel)) (fun _ _ _ _ _ => (pg_tup rfl (pgs_cons (pg_name (i := 2) sc_same.nd rfl (Or.inl rfl)) (pgs_cons (pg_name (i := 3) sc_same.nd rfl (Or.inl rfl)) pgs_nil)))) (fun _ _ _ _ _ => pts_nil) (fun _ _ _ _ _ => (pe_call G_same (hr.mono (by omega)) (by rfl) C_same.m C_same.F.kp C_same.b .nil pass0 (pa_cons (pv 2) (pa_cons (pv 3) pa_nil))))) pa_nil))))) pss_nil)
      (pss_cons (ps_if (pt_cmpR op_isN (pv 1) pe_non (nomark _)) (pss_one (ps_ret (pe_cmpR op_isN (pv 0) pe_non (nomark _)))) pss_nil)
      (pss_cons (ps_if (PW.pt (pw_or (pt_val (pe_callB call_isi (by rfl) T.t_isinstance (by decide +kernel) (pa_cons (pv 1) (pa_cons (pe_bltn (v := .ty "bool") (by rfl) T.t_bool (by decide +kernel) rfl) pa_nil)))) (pw_or1 (pt_val (pe_callB call_isi (by rfl) T.t_isinstance (by decide +kernel) (pa_cons (pv 0) (pa_cons (pe_bltn (v := .ty "bool") (by rfl) T.t_bool (by decide +kernel) rfl) pa_nil))))))) (pss_one (ps_ret (pe_and (pe_callB call_isi (by rfl) T.t_isinstance (by decide +kernel) (pa_cons (pv 1) (pa_cons (pe_bltn (v := .ty "bool") (by rfl) T.t_bool (by decide +kernel) rfl) pa_nil))) (pe_and (pe_callB call_isi (by rfl) T.t_isinstance (by decide +kernel) (pa_cons (pv 0) (pa_cons (pe_bltn (v := .ty "bool") (by rfl) T.t_bool (by decide +kernel) rfl) pa_nil))) (pe_one (pe_cmpR op_eq (pv 0) (pv 1) (nomark _))))))) pss_nil)
      (pss_cons (ps_if (PW.pt (pw_or (pt_val (pe_callB call_isi (by rfl) T.t_isinstance (by decide +kernel) (pa_cons (pv 1) (pa_cons (pe_bltn (v := .ty "str") (by rfl) T.t_str (by decide +kernel) rfl) pa_nil)))) (pw_or1 (pt_val (pe_callB call_isi (by rfl) T.t_isinstance (by decide +kernel) (pa_cons (pv 0) (pa_cons (pe_bltn (v := .ty "str") (by rfl) T.t_str (by decide +kernel) rfl) pa_nil))))))) (pss_one (ps_ret (pe_and (pe_callB call_isi (by rfl) T.t_isinstance (by decide +kernel) (pa_cons (pv 1) (pa_cons (pe_bltn (v := .ty "str") (by rfl) T.t_str (by decide +kernel) rfl) pa_nil))) (pe_and (pe_callB call_isi (by rfl) T.t_isinstance (by decide +kernel) (pa_cons (pv 0) (pa_cons (pe_bltn (v := .ty "str") (by rfl) T.t_str (by decide +kernel) rfl) pa_nil))) (pe_one (pe_cmpR op_eq (pv 0) (pv 1) (nomark _))))))) pss_nil)
      (pss_one (ps_ret (pe_and (pe_callB call_isi (by rfl) T.t_isinstance (by decide +kernel) (pa_cons (pv 0) (pa_cons (pe_bltn (v := .ty "int") (by rfl) T.t_int (by decide +kernel) rfl) pa_nil))) (pe_one (pe_cmpR op_eq (pv 0) (pv 1) (nomark _)))))))))), ?_⟩
    have q0 := q H (Same.refl H)
    cases hy with
    | non =>
      have ty : TyX K H _ (.type "NoneType") := .base .non
      walk_at "isit"
      refine ⟨_, rfl, rfl, _, rfl, ?_⟩
      refine iteT ?_
      refine ⟨_, rfl, rfl, ?_⟩
      cases hx <;> exact q0
    | bl b =>
      have ty : TyX K H _ (.type "bool") := .base (.bl b)
      cases hx with
      | non =>
        have tx : TyX K H _ (.type "NoneType") := .base .non
        walk_at "isit"
        refine ⟨_, rfl, rfl, _, rfl, ?_⟩
        refine iteF ?_
        walk_at "isit"
        walk_at "isi"
        refine ⟨_, rfl, ?_⟩
        refine iteT ?_
        walk_at "isi"
        refine ⟨_, rfl, ?_⟩
        refine iteF ?_
        exact q0
      | bl b2 =>
        have tx : TyX K H _ (.type "bool") := .base (.bl b2)
        walk_at "isit"
        refine ⟨_, rfl, rfl, _, rfl, ?_⟩
        refine iteF ?_
        walk_at "isit"
        walk_at "isi"
        refine ⟨_, rfl, ?_⟩
        refine iteT ?_
        walk_at "isi"
        refine ⟨_, rfl, ?_⟩
        refine iteT ?_
        refine ⟨_, rfl, _, rfl, rfl, ?_⟩
        cases b <;> cases b2 <;> exact q0
      | int i2 =>
        have tx : TyX K H _ (.type "int") := .base (.int i2)
        walk_at "isit"
        refine ⟨_, rfl, rfl, _, rfl, ?_⟩
        refine iteF ?_
        walk_at "isit"
        walk_at "isi"
        refine ⟨_, rfl, ?_⟩
        refine iteT ?_
        walk_at "isi"
        refine ⟨_, rfl, ?_⟩
        refine iteF ?_
        exact q0
      | str z2 =>
        have tx : TyX K H _ (.type "str") := .base (.str z2)
        walk_at "isit"
        refine ⟨_, rfl, rfl, _, rfl, ?_⟩
        refine iteF ?_
        walk_at "isit"
        walk_at "isi"
        refine ⟨_, rfl, ?_⟩
        refine iteT ?_
        walk_at "isi"
        refine ⟨_, rfl, ?_⟩
        refine iteF ?_
        exact q0
      | tup h1 h2 =>
        have tx : TyX K H _ (.type "tuple") := .base (.tup h1)
        walk_at "isit"
        refine ⟨_, rfl, rfl, _, rfl, ?_⟩
        refine iteF ?_
        walk_at "isit"
        walk_at "isi"
        refine ⟨_, rfl, ?_⟩
        refine iteT ?_
        walk_at "isi"
        refine ⟨_, rfl, ?_⟩
        refine iteF ?_
        exact q0
    | int i =>
      have ty : TyX K H _ (.type "int") := .base (.int i)
      cases hx with
      | non =>
        have tx : TyX K H _ (.type "NoneType") := .base .non
        walk_at "isit"
        refine ⟨_, rfl, rfl, _, rfl, ?_⟩
        refine iteF ?_
        walk_at "isit"
        walk_at "isit"
        walk_at "isit"
        walk_at "isit"
        walk_at "isi"
        refine ⟨_, rfl, ?_⟩
        refine iteF ?_
        exact q0
      | bl b2 =>
        have tx : TyX K H _ (.type "bool") := .base (.bl b2)
        walk_at "isit"
        refine ⟨_, rfl, rfl, _, rfl, ?_⟩
        refine iteF ?_
        walk_at "isit"
        walk_at "isit"
        walk_at "isi"
        refine ⟨_, rfl, ?_⟩
        refine iteF ?_
        exact q0
      | int i2 =>
        have tx : TyX K H _ (.type "int") := .base (.int i2)
        walk_at "isit"
        refine ⟨_, rfl, rfl, _, rfl, ?_⟩
        refine iteF ?_
        walk_at "isit"
        walk_at "isit"
        walk_at "isit"
        walk_at "isit"
        walk_at "isi"
        refine ⟨_, rfl, ?_⟩
        refine iteT ?_
        refine ⟨_, rfl, _, rfl, rfl, ?_⟩
        have e1 : Da.eq (.int i2) (.int i) = decide (V.int i2 = V.int i) := by
          simp [Da.eq]
        rw [e1] at q0
        exact q0
      | str z2 =>
        have tx : TyX K H _ (.type "str") := .base (.str z2)
        walk_at "isit"
        refine ⟨_, rfl, rfl, _, rfl, ?_⟩
        refine iteF ?_
        walk_at "isit"
        walk_at "isit"
        walk_at "isit"
        walk_at "isit"
        walk_at "isi"
        refine ⟨_, rfl, ?_⟩
        refine iteF ?_
        exact q0
      | tup h1 h2 =>
        have tx : TyX K H _ (.type "tuple") := .base (.tup h1)
        walk_at "isit"
        refine ⟨_, rfl, rfl, _, rfl, ?_⟩
        refine iteF ?_
        walk_at "isit"
        walk_at "isit"
        walk_at "isit"
        walk_at "isit"
        walk_at "isi"
        refine ⟨_, rfl, ?_⟩
        refine iteF ?_
        exact q0
    | str z =>
      have ty : TyX K H _ (.type "str") := .base (.str z)
      cases hx with
      | non =>
        have tx : TyX K H _ (.type "NoneType") := .base .non
        walk_at "isit"
        refine ⟨_, rfl, rfl, _, rfl, ?_⟩
        refine iteF ?_
        walk_at "isit"
        walk_at "isit"
        walk_at "isit"
        walk_at "isi"
        refine ⟨_, rfl, ?_⟩
        refine iteT ?_
        walk_at "isi"
        refine ⟨_, rfl, ?_⟩
        refine iteF ?_
        exact q0
      | bl b2 =>
        have tx : TyX K H _ (.type "bool") := .base (.bl b2)
        walk_at "isit"
        refine ⟨_, rfl, rfl, _, rfl, ?_⟩
        refine iteF ?_
        walk_at "isit"
        walk_at "isit"
        walk_at "isi"
        refine ⟨_, rfl, ?_⟩
        refine iteF ?_
        exact q0
      | int i2 =>
        have tx : TyX K H _ (.type "int") := .base (.int i2)
        walk_at "isit"
        refine ⟨_, rfl, rfl, _, rfl, ?_⟩
        refine iteF ?_
        walk_at "isit"
        walk_at "isit"
        walk_at "isit"
        walk_at "isi"
        refine ⟨_, rfl, ?_⟩
        refine iteT ?_
        walk_at "isi"
        refine ⟨_, rfl, ?_⟩
        refine iteF ?_
        exact q0
      | str z2 =>
        have tx : TyX K H _ (.type "str") := .base (.str z2)
        walk_at "isit"
        refine ⟨_, rfl, rfl, _, rfl, ?_⟩
        refine iteF ?_
        walk_at "isit"
        walk_at "isit"
        walk_at "isit"
        walk_at "isi"
        refine ⟨_, rfl, ?_⟩
        refine iteT ?_
        walk_at "isi"
        refine ⟨_, rfl, ?_⟩
        refine iteT ?_
        refine ⟨_, rfl, _, rfl, rfl, ?_⟩
        have e1 : Da.eq (.str z2) (.str z) = decide (V.str z2 = V.str z) := by
          simp [Da.eq]
        rw [e1] at q0
        exact q0
      | tup h1 h2 =>
        have tx : TyX K H _ (.type "tuple") := .base (.tup h1)
        walk_at "isit"
        refine ⟨_, rfl, rfl, _, rfl, ?_⟩
        refine iteF ?_
        walk_at "isit"
        walk_at "isit"
        walk_at "isit"
        walk_at "isi"
        refine ⟨_, rfl, ?_⟩
        refine iteT ?_
        walk_at "isi"
        refine ⟨_, rfl, ?_⟩
        refine iteF ?_
        exact q0
    | @tup b ys es hb hbs =>
      have ty : TyX K H _ (.type "tuple") := .base (.tup hb)
      walk_at "isit"
      cases hx with
      | non =>
        have tx : TyX K H _ (.type "NoneType") := .base .non
        walk_at "isit"
        exact q0
      | bl b2 =>
        have tx : TyX K H _ (.type "bool") := .base (.bl b2)
        walk_at "isit"
        exact q0
      | int b2 =>
        have tx : TyX K H _ (.type "int") := .base (.int b2)
        walk_at "isit"
        exact q0
      | str b2 =>
        have tx : TyX K H _ (.type "str") := .base (.str b2)
        walk_at "isit"
        exact q0
      | @tup a xs ds ha has =>
        have tx : TyX K H _ (.type "tuple") := .base (.tup ha)
        walk_at "isit"
        have lx := has.len
        have ly := hbs.len
        refine ⟨_, rfl, a, _, rfl, .inr (SqT.of ha), _, rfl, b, _, rfl, .inr (SqT.of hb), rfl, _, rfl, ?_⟩
        refine ite2 (fun c => ?_) (fun c => ?_)
        · have c' : xs.length ≠ ys.length := fun e => by
            rw [e] at c
            simp at c
          have e0 : Da.eq (.tup ds) (.tup es) = false := by
            simp only [Da.eq]
            exact Da.eqA_len (by omega)
          rw [e0] at q0
          exact q0
        · have c' : xs.length = ys.length := by
            simp at c
            omega
          have lde : ds.length = es.length := by omega
          have e0 : Da.eq (.tup ds) (.tup es) = ((ds.zip es).map fun p => Da.eq p.1 p.2).all id := by
            simp only [Da.eq]
            exact Da.eqA_zip lde
          rw [e0] at q
          have lz : (ds.zip es).length = xs.length := by rw [List.length_zip]; omega
          refine ⟨_, rfl, _, rfl, a, b, xs, ys, rfl, .inr ⟨SqT.of ha, SqT.of hb, fun D hD => ?_⟩⟩
          refine lc_it (walk_zipT (xs := xs) (ys := ys) rfl) (fun i H' => Same H H' ∧ H' D = some (.lst ((((ds.zip es).map fun p => Da.eq p.1 p.2).take i).map V.bl))) ?_ ?_ ?_ ?_
          · exact ⟨same_new hD _, upd_same⟩
          · rintro i H1 _ ⟨S, _⟩
            exact ⟨SqT.of (S _ _ ha), SqT.of (S _ _ hb)⟩
          · rintro i x H1 H2 hi ⟨S, hacc⟩ ⟨T', x', y', rfl, hT, rfl, hx', hy'⟩
            obtain ⟨d', hd', ix'⟩ := has.getV hx'
            obtain ⟨e', he', iy'⟩ := hbs.getV hy'
            have S2 := S.new hT (o := .tup [x', y'])
            have hDT : D ≠ T' := ne_of_none hacc hT
            refine ⟨T', _, rfl, SqT.of upd_same, rfl, _, _, rfl, _, _, rfl, rfl, rfl, ?_⟩
            refine yes_if ?_
            refine ⟨_, rfl, _, rfl, x', y', d', e', rfl, ix'.mono S2.tups, iy'.mono S2.tups, hdep.2 e' (List.mem_of_getElem? he'), fun H' S' => ?_⟩
            have hzi : (ds.zip es)[i]? = some (d', e') := by
              rw [List.getElem?_zip_eq_some]; exact ⟨hd', he'⟩
            refine ⟨_, S' _ _ (by rw [upd_ne hDT]; exact hacc), ?_, (S2.trans S').mutN hD, ?_⟩
            · have := hdep.1
              refine sz5' ?_
              simp only [List.length_map, List.length_take]
              omega
            · rw [upd_same]
              have hm : ((ds.zip es).map fun p => Da.eq p.1 p.2)[i]? = some (Da.eq d' e') := by
                rw [List.getElem?_map, hzi]; rfl
              rw [List.take_add_one, hm]
              simp
          · rintro H' ⟨S, hacc⟩
            refine ⟨D, ((ds.zip es).map fun p => Da.eq p.1 p.2), rfl, ?_, q _ S⟩
            rw [← c', Nat.min_self, List.take_of_length_le (by rw [List.length_map, lz]; exact Nat.le_refl _)] at hacc
            exact SqL.of hacc
end
end Nf


set_option Elab.async false
set_option linter.all false
set_option maxRecDepth 100000
namespace Nf
open PySem L2
section
variable {P : Program} {w : World} {K : PySem.W.Frag} {mg : Str → Option Value} {base : Heap} {f fn fl fm : Addr} {fd fnd fld fmd : FuncData}
/-! ### a text of letters -/
abbrev s_letters : Stmt := top 9
abbrev N_letters : List Str := ["_law_deck_here", "_law_most", "_law_number", "_law_found", "_law_k"]
abbrev P_letters : List Str := ["_law_deck_here", "_law_most"]
theorem sc_letters : FnScope N_letters P_letters (defScope s_letters) := ⟨rfl, rfl, rfl, by decide +kernel, rfl, by decide +kernel, by decide +kernel⟩
def spLetters : Sp := fun vs H Q _ => ∃ (d g c : Addr) (n : Nat) (m : Nat), vs = [.ref d, .int m] ∧ Deck H d g c n ∧ 1 ≤ m ∧ m ≤ 100 ∧ n + m + 1 < 2 ^ 40 ∧
  ∀ x H', x.length ≤ m → Deck H' d g c (n + m + 1) → Keep [d, g, c] H H' → Q (.str x) H'
theorem ok_letters (T : Bt mg) (C_letters : Cal K mg "_law_letters" s_letters P_letters f fd) (C_next : Cal K mg "_law_next" s_next P_next fn fnd) (G_next : FnOk P w K mg base CX0 1 fn fnd P_next spNext) : FnOk P w K mg base CX0 2 f fd P_letters spLetters := by
  refine C_letters.F.ok sc_letters (fun vs H Q E h => ?_) (fun cdv A outer s H vs Q E hr h => ?_)
  · obtain ⟨d, g, c, n, m, rfl, _⟩ := h
    rfl
  obtain ⟨d, g, c, n, m, rfl, D, hm1, hm, hn, q⟩ := h
  refine ⟨_, PSs.nox (pss_cons (ps_set (i := 2) sc_letters.nd rfl (Or.inl rfl) (pe_call G_next (hr.mono (by omega)) (by rfl) C_next.m C_next.F.kp C_next.b .nil pass0 (pa_cons (pv 0) pa_nil)))
    (pss_cons (ps_set (i := 3) sc_letters.nd rfl (Or.inl rfl) pe_str)
    (pss_cons (ps_for PassesOwn.never (by rfl) (pi_range1 (by rfl) T.t_range (pa_cons (pe_op op_add pe_int (pe_op op_mod (pv 2) (pv 1))) pa_nil)) (pg_name (i := 4) sc_letters.nd rfl (Or.inl rfl)) (pss_one (ps_set (i := 3) sc_letters.nd rfl (Or.inl rfl) (pe_op op_add_str (pv 3) (pe_ix ix_str pe_str (pe_op op_mod (pe_call G_next (hr.mono (by omega)) (by rfl) C_next.m C_next.F.kp C_next.b .nil pass0 (pa_cons (pv 0) pa_nil)) pe_int) (fun _ _ => rfl))))))
    (pss_one (ps_ret (pv 3)))))), ?_⟩
  refine ⟨_, rfl, d, g, c, n, rfl, D, by omega, fun k H1 hk0 hk1 D1 K1 => ?_⟩
  have hpos : (0 : Int) < (m : Int) := by omega
  refine ⟨_, rfl, _, rfl, _, _, rfl, rfl, hpos, _, _, rfl, rfl, _, rfl, ?_, ?_, ?_⟩
  · have := mod_range (k := k) hpos; omega
  · have := mod_range (k := k) hpos; omega
  have hr1 := mod_range (k := k) hpos
  refine for_range (lo := 0) (n := (1 + k % (m : Int)).toNat) (fun i σ H' => ∃ (x : Str) (y : Option V), σ = [some (.ref d), some (.int m), some (.int k), some (.str x), y] ∧ x.length = i ∧ Deck H' d g c (n + 1 + i) ∧ Keep [d, g, c] H H') ?_ ?_ ?_
  · exact ⟨"", _, rfl, rfl, D1, K1⟩
  · rintro i σ H2 hi ⟨x, y, rfl, hx, D2, K2⟩
    refine ⟨_, rfl, _, rfl, d, g, c, n + 1 + i, rfl, D2, by omega, fun k2 H3 hk2 hk3 D3 K3 => ?_⟩
    refine ⟨_, _, rfl, rfl, by show (0 : Int) < 26; decide, ?_⟩
    have hr2 := mod_range (k := k2) (m := 26) (by decide)
    obtain ⟨cc, hcc⟩ := atC (xs := (Str.ofString "abcdefghijklmnopqrstuvwxyz").cps.toList) (i := k2 % 26) hr2.1 (by
      have e : (Str.ofString "abcdefghijklmnopqrstuvwxyz").cps.toList.length = 26 := by decide +kernel
      rw [e]; exact hr2.2)
    refine ⟨_, _, cc, rfl, rfl, by decide +kernel, hcc, _, _, rfl, rfl, ?_, ?_⟩
    · refine sz5 ?_
      show x.length + 1 ≤ 100000
      omega
    · refine ⟨x ++ ⟨#[cc]⟩, _, rfl, ?_, D3, K2.trans K3⟩
      rw [str_len, hx]
      rfl
  · rintro σ H2 ⟨x, y, rfl, hx, D2, K2⟩
    refine ⟨_, rfl, ?_⟩
    exact q x H2 (by omega) (D2.le (by omega)) K2
/-! ### a name -/
abbrev s_name : Stmt := top 10
abbrev N_name : List Str := ["_law_deck_here", "_law_number", "_law_some", "_law_found"]
abbrev P_name : List Str := ["_law_deck_here"]
theorem sc_name : FnScope N_name P_name (defScope s_name) := ⟨rfl, rfl, rfl, by decide +kernel, rfl, by decide +kernel, by decide +kernel⟩
def spName : Sp := fun vs H Q _ => ∃ (d g c : Addr) (n : Nat), vs = [.ref d] ∧ Deck H d g c n ∧ n + 10 < 2 ^ 40 ∧
  ∀ x H', Deck H' d g c (n + 10) → Keep [d, g, c] H H' → Q (.str x) H'
theorem ok_name (T : Bt mg) (C_name : Cal K mg "_law_name" s_name P_name f fd) (C_next : Cal K mg "_law_next" s_next P_next fn fnd) (G_next : FnOk P w K mg base CX0 1 fn fnd P_next spNext)
    (C_letters : Cal K mg "_law_letters" s_letters P_letters fl fld) (G_letters : FnOk P w K mg base CX0 2 fl fld P_letters spLetters) : FnOk P w K mg base CX0 3 f fd P_name spName := by
  refine C_name.F.ok sc_name (fun vs H Q E h => ?_) (fun cdv A outer s H vs Q E hr h => ?_)
  · obtain ⟨d, g, c, n, rfl, _⟩ := h
    rfl
  obtain ⟨d, g, c, n, rfl, D, hn, q⟩ := h
  refine ⟨_, PSs.nox (pss_cons (ps_set (i := 1) sc_name.nd rfl (Or.inl rfl) (pe_call G_next (hr.mono (by omega)) (by rfl) C_next.m C_next.F.kp C_next.b .nil pass0 (pa_cons (pv 0) pa_nil)))
    (pss_cons (ps_set (i := 2) sc_name.nd rfl (Or.inl rfl) (pe_lst (pa_cons pe_str (pa_cons pe_str (pa_cons pe_str (pa_cons pe_str (pa_cons pe_str (pa_cons pe_str (pa_cons pe_str (pa_cons pe_str pa_nil))))))))))
    (pss_cons (ps_if (pt_cmpR op_lt (pe_op op_mod (pv 1) pe_int) pe_int (nomark _)) (pss_one (ps_ret (pe_ix ix_list (pv 2) (pe_op op_mod (pe_op op_fdiv (pv 1) pe_int) pe_int) (fun _ _ => rfl)))) pss_nil)
    (pss_cons (ps_if (pt_cmpR op_eq (pe_op op_mod (pv 1) pe_int) pe_int (nomark _)) (pss_one (ps_ret (pe_callTy call_str_int (by rfl) T.t_str (by decide +kernel) (pa_cons (pe_op op_add pe_int (pe_op op_mod (pe_op op_fdiv (pv 1) pe_int) pe_int)) pa_nil)))) pss_nil)
    (pss_cons (ps_set (i := 3) sc_name.nd rfl (Or.inl rfl) (pe_call G_letters (hr.mono (by omega)) (by rfl) C_letters.m C_letters.F.kp C_letters.b .nil pass0 (pa_cons (pv 0) (pa_cons pe_int pa_nil))))
    (pss_one (ps_ret (pe_ix ix_list (pe_lst (pa_cons (pv 3) (pa_cons pe_str pa_nil))) (pe_callTy call_int1 (by rfl) T.t_int (by decide +kernel) (pa_cons (pe_cmpR op_in_seq (pv 3) (pe_lst (pa_cons pe_str (pa_cons pe_str (pa_cons pe_str (pa_cons pe_str (pa_cons pe_str pa_nil)))))) (by rfl)) pa_nil)) (fun _ _ => rfl))))))))), ?_⟩
  refine ⟨_, rfl, d, g, c, n, rfl, D, by omega, fun k H1 hk0 hk1 D1 K1 => ?_⟩
  refine ⟨by show 8 ≤ sizeLine; decide, fun p hp => ?_⟩
  have D2 := D1.new hp (o := .lst [.str "a", .str "b", .str "ab", .str "ba", .str "kin", .str "sam", .str "eithers", .str "yes"])
  have K2 := K1.new hp (o := .lst [.str "a", .str "b", .str "ab", .str "ba", .str "kin", .str "sam", .str "eithers", .str "yes"])
  have hpp : upd H1 p (.lst [.str "a", .str "b", .str "ab", .str "ba", .str "kin", .str "sam", .str "eithers", .str "yes"]) p = some (.lst ((["a", "b", "ab", "ba", "kin", "sam", "eithers", "yes"] : List Str).map V.str)) := upd_same
  refine ⟨_, rfl, _, _, rfl, rfl, by show (0 : Int) < 8; decide, _, _, rfl, rfl, _, rfl, ?_⟩
  refine ite2 (fun c1 => ?_) (fun c1 => ?_)
  · have hr2 := mod_range (k := k / 8) (m := 8) (by decide)
    obtain ⟨x, hx, _⟩ := at_nat (xs := (["a", "b", "ab", "ba", "kin", "sam", "eithers", "yes"] : List Str)) (f := V.str) hr2.1 hr2.2
    refine ⟨_, rfl, _, rfl, _, _, rfl, rfl, ⟨by decide, by decide⟩, _, _, rfl, rfl, by show (0 : Int) < 8; decide, p, _, _, _, rfl, rfl, SqL.of hpp, hx, ?_⟩
    exact q x _ (D2.le (by omega)) K2
  · refine ⟨_, rfl, _, _, rfl, rfl, by show (0 : Int) < 8; decide, rfl, _, rfl, ?_⟩
    refine ite2 (fun c2 => ?_) (fun c2 => ?_)
    · have hr2 := mod_range (k := k / 8) (m := 999) (by decide)
      refine ⟨_, rfl, _, _, rfl, rfl, ⟨by decide, by decide⟩, _, _, rfl, rfl, by show (0 : Int) < 999; decide, _, _, rfl, rfl, _, rfl, ?_, ?_⟩
      · have h1 : (1 + k / 8 % 999).natAbs < 2 ^ 1920 := Nat.lt_of_lt_of_le (show (1 + k / 8 % 999).natAbs < 2 ^ 10 by omega) (Nat.pow_le_pow_right (by decide) (by decide))
        exact PySem.Flt.log2_lt_of (by decide) h1
      · exact q _ _ (D2.le (by omega)) K2
    · refine ⟨_, rfl, d, g, c, n + 1, 8, rfl, D2, by decide, by decide, by omega, fun x H3 hx D3 K3 => ?_⟩
      refine ⟨_, rfl, by show 2 ≤ sizeLine; decide, fun p2 hp2 => ?_⟩
      have D4 := D3.new hp2 (o := .lst [.str x, .str "z"])
      have K4 := (K2.trans K3).new hp2 (o := .lst [.str x, .str "z"])
      have hpp2 : upd H3 p2 (.lst [.str x, .str "z"]) p2 = some (.lst [.str x, .str "z"]) := upd_same
      generalize upd H3 p2 (.lst [.str x, .str "z"]) = H4 at D4 K4 hpp2
      refine ⟨_, rfl, by show 5 ≤ sizeLine; decide, fun p3 hp3 => ?_⟩
      have D5 := D4.new hp3 (o := .lst [.str "kind", .str "def", .str "either", .str "same", .str "truth"])
      have K5 := K4.new hp3 (o := .lst [.str "kind", .str "def", .str "either", .str "same", .str "truth"])
      have hpp3 : upd H4 p3 (.lst [.str "kind", .str "def", .str "either", .str "same", .str "truth"]) p2 = some (.lst [.str x, .str "z"]) := by rw [upd_ne (ne_of_none hpp2 hp3)]; exact hpp2
      refine ⟨p3, _, rfl, .inl (SqL.of upd_same), rfl, rfl, .inr ⟨_, rfl, ?_⟩⟩
      cases inV (.str x) [.str "kind", .str "def", .str "either", .str "same", .str "truth"] with
      | true =>
        refine ⟨p2, _, _, .str "z", rfl, rfl, SqL.of hpp3, rfl, ?_⟩
        exact q _ _ (D5.le (by omega)) K5
      | false =>
        refine ⟨p2, _, _, .str x, rfl, rfl, SqL.of hpp3, rfl, ?_⟩
        exact q _ _ (D5.le (by omega)) K5
end
end Nf


set_option Elab.async false
set_option linter.all false
set_option maxRecDepth 100000
namespace Nf
open PySem L2
section
variable {P : Program} {w : World} {K : PySem.W.Frag} {mg : Str → Option Value} {base : Heap} {f fn fm : Addr} {fd fnd fmd : FuncData}
/-! ### a saying -/
abbrev s_any : Stmt := top 11
abbrev N_any : List Str := ["_law_deck_here", "_law_heads", "_law_left", "_law_number", "_law_word", "_law_one", "_law_many", "_law_head", "_law_k"]
abbrev P_any : List Str := ["_law_deck_here", "_law_heads", "_law_left"]
theorem sc_any : FnScope N_any P_any (defScope s_any) := ⟨rfl, rfl, rfl, by decide +kernel, rfl, by decide +kernel, by decide +kernel⟩
def spAny (m : Nat) : Sp := fun vs H Q _ => ∃ (d g c hs : Addr) (n : Nat) (ws : List Str) (left : Int), vs = [.ref d, .ref hs, .int left] ∧ Deck H d g c n ∧ H hs = some (.lst (ws.map V.str)) ∧ hs ∉ [d, g, c] ∧ 0 < ws.length ∧
  (∀ x ∈ ws, x ∈ heads6) ∧ 1 ≤ left ∧ left ≤ m ∧ n + cost m < 2 ^ 40 ∧
  ∀ v s H', Deck H' d g c (n + cost m) → Keep [d, g, c] H H' → Is H' v s.da → Say.ok (fun x => x ∈ ws ∨ x = "made") left.toNat s → Q v H'
theorem ok_any (T : Bt mg) (C_any : Cal K mg "_law_any" s_any P_any f fd) (C_next : Cal K mg "_law_next" s_next P_next fn fnd) (G_next : FnOk P w K mg base CX0 1 fn fnd P_next spNext)
    (C_name : Cal K mg "_law_name" s_name P_name fm fmd) (G_name : FnOk P w K mg base CX0 3 fm fmd P_name spName) : ∀ m : Nat, FnOk P w K mg base CX0 (m + 3) f fd P_any (spAny m)
  | 0 => fn_never fun vs H Q E ⟨_, _, _, _, _, _, _, _, _, _, _, _, _, h1, h2, _⟩ => by omega
  | m + 1 => by
    have G_any := ok_any T C_any C_next G_next C_name G_name m
    refine C_any.F.ok sc_any (fun vs H Q E h => ?_) (fun cdv A outer s H vs Q E hr h => ?_)
    · obtain ⟨d, g, c, hs, n, ws, left, rfl, _⟩ := h
      rfl
    obtain ⟨d, g, c, hs, n, ws, left, rfl, D, hh, hns, hw0, hw6, hl1, hlm, hn, q⟩ := h
    refine ⟨_, PSs.nox (pss_cons (ps_set (i := 3) sc_any.nd rfl (Or.inl rfl) (pe_call G_next (hr.mono (by omega)) (by rfl) C_next.m C_next.F.kp C_next.b .nil pass0 (pa_cons (pv 0) pa_nil)))
      (pss_cons (ps_set (i := 4) sc_any.nd rfl (Or.inl rfl) (pe_ix ix_list (pv 1) (pe_op op_mod (pv 3) (pe_callB call_len_seq (by rfl) T.t_len (by decide +kernel) (pa_cons (pv 1) pa_nil))) (fun _ _ => rfl)))
      (pss_cons (ps_if (PW.pt (pw_and (pt_cmpR op_lt (pv 2) pe_int (nomark _)) (pw_and1 (pt_cmpR op_notIn_seq (pv 4) (pe_lst (pa_cons pe_str (pa_cons pe_str pa_nil))) (by rfl))))) (pss_one (ps_set (i := 4) sc_any.nd rfl (Or.inl rfl) (pe_ix ix_list (pe_lst (pa_cons pe_str (pa_cons pe_str pa_nil))) (pe_callTy call_int1 (by rfl) T.t_int (by decide +kernel) (pa_cons (pe_or (pe_cmpR op_notIn_seq pe_str (pv 1) (by rfl)) (pe_one (pe_cmpR op_eq (pe_op op_mod (pe_op op_fdiv (pv 3) pe_int) pe_int) pe_int (nomark _)))) pa_nil)) (fun _ _ => rfl)))) pss_nil)
      (pss_cons (ps_if (pt_cmpR op_eq (pv 4) pe_str (nomark _)) (pss_one (ps_ret (pe_tup (pa_cons pe_str pa_nil)))) pss_nil)
      (pss_cons (ps_if (pt_cmpR op_eq (pv 4) pe_str (nomark _)) (pss_one (ps_ret (pe_tup (pa_cons pe_str (pa_cons (pe_call G_name (hr.mono (by omega)) (by rfl) C_name.m C_name.F.kp C_name.b .nil pass0 (pa_cons (pv 0) pa_nil)) pa_nil))))) pss_nil)
      (pss_cons (ps_if (pt_cmpR op_in_seq (pv 4) (pe_lst (pa_cons pe_str (pa_cons pe_str pa_nil))) (by rfl)) (pss_cons (ps_set (i := 5) sc_any.nd rfl (Or.inl rfl) (pe_call G_any (hr.mono (by omega)) (by rfl) C_any.m C_any.F.kp C_any.b .nil pass0 (pa_cons (pv 0) (pa_cons (pv 1) (pa_cons (pe_op op_sub (pv 2) pe_int) pa_nil)))))
      (pss_one (ps_ret (pe_tup (pa_cons (pv 4) (pa_cons (pv 5) (pa_cons (pe_call G_any (hr.mono (by omega)) (by rfl) C_any.m C_any.F.kp C_any.b .nil pass0 (pa_cons (pv 0) (pa_cons (pv 1) (pa_cons (pe_op op_sub (pv 2) pe_int) pa_nil)))) pa_nil))))))) pss_nil)
      (pss_cons (ps_set (i := 6) sc_any.nd rfl (Or.inl rfl) (pe_op op_mul (pe_ix ix_list (pe_lst (pa_cons pe_int (pa_cons pe_int (pa_cons pe_int (pa_cons pe_int (pa_cons pe_int (pa_cons pe_int pa_nil))))))) (pe_op op_mod (pe_op op_fdiv (pv 3) pe_int) pe_int) (fun _ _ => rfl)) (pe_callTy call_int1 (by rfl) T.t_int (by decide +kernel) (pa_cons (pe_cmpR op_gt (pv 2) pe_int (nomark _)) pa_nil))))
      (pss_cons (ps_set (i := 7) sc_any.nd rfl (Or.inl rfl) (pe_ix ix_list (pe_lst (pa_cons pe_str (pa_cons pe_str (pa_cons pe_str (pa_cons pe_str (pa_cons pe_str (pa_cons pe_str (pa_cons pe_str pa_nil)))))))) (pe_op op_mod (pe_op op_fdiv (pv 3) pe_int) pe_int) (fun _ _ => rfl)))
      (pss_one (ps_ret (pe_tup (pa_cons (pv 4) (pa_cons (pv 7) (pa_cons (pe_callTy call_tuple_of (by rfl) T.t_tuple (by decide +kernel) (pa_cons (pe_lc (own := [("_law_k", 8)]) (g := gName 8) (tt := tYes) (by rfl) sc_any.nd (pi_range1 (by rfl) T.t_range (pa_cons (pv 6) pa_nil)) (blkOk_by (own := [("_law_k", 8)]) (N := N_any) (sc := defScope s_any) (by decide +kernel)) (fun _ _ _ _ _ => (pg_name (i := 8) sc_any.nd rfl (Or.inl rfl))) (fun _ _ _ _ _ => pts_nil) (fun _ _ _ _ _ => (pe_call G_any (hr.mono (by omega)) (by rfl) C_any.m C_any.F.kp C_any.b .nil pass0 (pa_cons (pv 0) (pa_cons (pv 1) (pa_cons (pe_op op_sub (pv 2) pe_int) pa_nil)))))) pa_nil)) pa_nil)))))))))))))), ?_⟩
    have cp := cost_pos m
    rw [cost_succ] at hn q
    have hlw : (0 : Int) < (((ws.map V.str).length : Nat) : Int) := by rw [List.length_map]; omega
    refine ⟨_, rfl, d, g, c, n, rfl, D, by omega, fun k H1 hk0 hk1 D1 K1 => ?_⟩
    have hh1 := K1.at hh hns
    have hr1 := mod_range (k := k) hlw
    obtain ⟨x0, hx0, hx0m, _⟩ := at_nat (xs := ws) (f := V.str) hr1.1 (by have := hr1.2; rw [List.length_map] at this; rw [List.length_map]; exact this)
    refine ⟨_, rfl, _, rfl, _, rfl, hs, _, rfl, .inl (SqL.of hh1), _, _, rfl, rfl, hlw, hs, _, _, _, rfl, rfl, SqL.of hh1, hx0, ?_⟩
    refine g_name ?_
    dsimp only
    refine seq_cut (t1 := tIfS _ _ _) (fun σ' H' => ∃ x : Str, σ' = [some (.ref d), some (.ref hs), some (.int left), some (.int k), some (.str x), none, none, none, none] ∧ Deck H' d g c (n + 1) ∧ Keep [d, g, c] H H' ∧ (x ∈ ws ∨ x = "made") ∧ (left < 2 → x = "name" ∨ x = "skip" ∨ x = "made")) ?_ ?_
    · rintro σ' H2 ⟨x, rfl, D2, K2, hxw, hx2⟩
      obtain ⟨j, hj⟩ : ∃ j, left.toNat = j + 1 := ⟨left.toNat - 1, by omega⟩
      rw [hj] at q
      have hh2 := K2.at hh hns
      have hx6 : x ∈ heads6 := by
        rcases hxw with h | h
        · exact hw6 x h
        · rw [h]; simp [heads6]
      rcases heads6_cases hx6 with rfl | rfl | ⟨c0, rfl⟩ | ⟨c0, rfl⟩
      · refine ⟨_, rfl, rfl, _, rfl, ?_⟩
        refine ifT rfl ?_
        refine ⟨by show 1 ≤ sizeLine; decide, fun t ht => ?_⟩
        exact q _ .skip _ ((D2.new ht).le (by omega)) (K2.new ht) (mk_skip upd_same) hxw
      · refine ⟨_, rfl, rfl, _, rfl, ?_⟩
        refine ifF (by decide) ?_
        refine ⟨_, rfl, rfl, _, rfl, ?_⟩
        refine ifT rfl ?_
        refine ⟨_, rfl, d, g, c, n + 1, rfl, D2, by omega, fun y H3 D3 K3 => ⟨by show 2 ≤ sizeLine; decide, fun t ht => ?_⟩⟩
        exact q _ (.name y) _ ((D3.new ht).le (by omega)) ((K2.trans K3).new ht) (mk_name upd_same) hxw
      · refine ⟨_, rfl, rfl, _, rfl, ?_⟩
        refine ifF (by cases c0 <;> decide) ?_
        refine ⟨_, rfl, rfl, _, rfl, ?_⟩
        refine ifF (by cases c0 <;> decide) ?_
        have hl2 : 2 ≤ left := by
          by_cases z : left < 2
          · rcases hx2 z with h | h | h <;> cases c0 <;> exact absurd h (by decide)
          · omega
        refine ⟨_, rfl, by show 2 ≤ sizeLine; decide, fun p hp => ⟨p, _, rfl, .inl (SqL.of upd_same), rfl, rfl, _, rfl, ?_⟩⟩
        refine ifBT (by cases c0 <;> decide) ?_
        have D3 := D2.new hp (o := .lst [.str "either", .str "same"])
        have K3 := K2.new hp (o := .lst [.str "either", .str "same"])
        generalize upd H2 p (.lst [.str "either", .str "same"]) = H3 at D3 K3
        refine ⟨_, rfl, _, rfl, _, rfl, _, _, rfl, rfl, d, g, c, hs, n + 1, ws, left - 1, rfl, D3, K3.at hh hns, hns, hw0, hw6, by omega, by omega, by omega, fun v1 s1 H4 D4 K4 I1 o1 => ?_⟩
        have K4' := K3.trans K4
        refine ⟨_, rfl, _, rfl, _, rfl, _, rfl, _, rfl, _, _, rfl, rfl, d, g, c, hs, n + 1 + cost m, ws, left - 1, rfl, D4, K4'.at hh hns, hns, hw0, hw6, by omega, by omega, by omega, fun v2 s2 H5 D5 K5 I2 o2 => ?_⟩
        have I1' := K5.is D4.noTup I1
        refine ⟨by show 3 ≤ sizeLine; decide, fun t ht => ?_⟩
        have N := (same_new ht (.tup [.str (hTwo c0), v1, v2])).tups
        have ej : (left - 1).toNat = j := by omega
        rw [ej] at o1 o2
        exact q _ (.two c0 s1 s2) _ ((D5.new ht).le (by omega)) ((K4'.trans K5).new ht) (mk_two upd_same (I1'.mono N) (I2.mono N)) ⟨hxw, o1, o2⟩
      · refine ⟨_, rfl, rfl, _, rfl, ?_⟩
        refine ifF (by cases c0 <;> decide) ?_
        refine ⟨_, rfl, rfl, _, rfl, ?_⟩
        refine ifF (by cases c0 <;> decide) ?_
        refine ⟨_, rfl, by show 2 ≤ sizeLine; decide, fun p hp => ⟨p, _, rfl, .inl (SqL.of upd_same), rfl, rfl, _, rfl, ?_⟩⟩
        refine ifBF (by cases c0 <;> decide) ?_
        have D3 := D2.new hp (o := .lst [.str "either", .str "same"])
        have K3 := K2.new hp (o := .lst [.str "either", .str "same"])
        generalize upd H2 p (.lst [.str "either", .str "same"]) = H3 at D3 K3
        have hr16 := mod_range (k := k / 16) (m := 6) (by decide)
        obtain ⟨v, hv, hvm, _⟩ := at_nat (xs := ([0, 1, 1, 2, 2, 3] : List Int)) (f := V.int) hr16.1 hr16.2
        have hv3 : 0 ≤ v ∧ v ≤ 3 := by
          simp only [List.mem_cons, List.not_mem_nil, or_false] at hvm
          omega
        refine ⟨by show 6 ≤ sizeLine; decide, fun p2 hp2 => ?_⟩
        have D4 := D3.new hp2 (o := .lst [.int 0, .int 1, .int 1, .int 2, .int 2, .int 3])
        have K4 := K3.new hp2 (o := .lst [.int 0, .int 1, .int 1, .int 2, .int 2, .int 3])
        have hp2' : upd H3 p2 (.lst [.int 0, .int 1, .int 1, .int 2, .int 2, .int 3]) p2 = some (.lst (([0, 1, 1, 2, 2, 3] : List Int).map V.int)) := upd_same
        generalize upd H3 p2 (.lst [.int 0, .int 1, .int 1, .int 2, .int 2, .int 3]) = H4 at D4 K4 hp2'
        refine ⟨_, rfl, _, _, rfl, rfl, ⟨by decide, by decide⟩, _, _, rfl, rfl, by show (0 : Int) < 6; decide, p2, _, _, _, rfl, rfl, SqL.of hp2', hv, ?_⟩
        refine ⟨_, rfl, _, _, rfl, rfl, .inr ⟨_, rfl, _, _, rfl, rfl, .inl ⟨by omega, by omega⟩, ?_⟩⟩
        have hM : 0 ≤ v * (if decide (1 < left) = true then 1 else 0) ∧ v * (if decide (1 < left) = true then 1 else 0) ≤ 3 ∧ (left < 2 → v * (if decide (1 < left) = true then 1 else 0) = 0) := by
          split
          · next h => exact ⟨by omega, by omega, fun z => absurd (of_decide_eq_true h) (by omega)⟩
          · exact ⟨by omega, by omega, fun _ => by omega⟩
        obtain ⟨M, eM⟩ : ∃ M, v * (if decide (1 < left) = true then 1 else 0) = M := ⟨_, rfl⟩
        rw [eM] at hM
        obtain ⟨hM0, hM3, hM1⟩ := hM
        have hr96 := mod_range (k := k / 96) (m := 7) (by decide)
        obtain ⟨ww, hww, _, _⟩ := at_nat (xs := (["yes", "no", "nought", "next", "pair", "leaf", "plus"] : List Str)) (f := V.str) hr96.1 hr96.2
        refine ⟨by show 7 ≤ sizeLine; decide, fun p3 hp3 => ?_⟩
        have D5 := D4.new hp3 (o := .lst [.str "yes", .str "no", .str "nought", .str "next", .str "pair", .str "leaf", .str "plus"])
        have K5 := K4.new hp3 (o := .lst [.str "yes", .str "no", .str "nought", .str "next", .str "pair", .str "leaf", .str "plus"])
        have hp3' : upd H4 p3 (.lst [.str "yes", .str "no", .str "nought", .str "next", .str "pair", .str "leaf", .str "plus"]) p3 = some (.lst ((["yes", "no", "nought", "next", "pair", "leaf", "plus"] : List Str).map V.str)) := upd_same
        generalize upd H4 p3 (.lst [.str "yes", .str "no", .str "nought", .str "next", .str "pair", .str "leaf", .str "plus"]) = H5 at D5 K5 hp3'
        refine ⟨_, rfl, _, _, rfl, rfl, ⟨by decide, by decide⟩, _, _, rfl, rfl, by show (0 : Int) < 7; decide, p3, _, _, _, rfl, rfl, SqL.of hp3', hww, ?_⟩
        refine ⟨_, rfl, _, rfl, _, rfl, M, congrArg (fun z => [V.int z]) eM, by omega, by omega, fun Z hZ => ?_⟩
        have hZD := D5.not_new hZ
        refine lc_range (lo := 0) (n := M.toNat) (fun i H' => ∃ (vs : List V) (ss : List Say), Deck H' d g c (n + 1 + i * cost m) ∧ Keep [d, g, c] H H' ∧ H' Z = some (.lst vs) ∧ IsA H' vs (ss.map Say.da) ∧ ss.length = i ∧ ∀ p ∈ ss, Say.ok (fun x => x ∈ ws ∨ x = "made") j p) ?_ ?_ ?_
        · exact ⟨[], [], by simpa using D5.new hZ, K5.new hZ, upd_same, .nil, rfl, by simp⟩
        · rintro i H6 hi ⟨vs, ss, D6, K6, hZ6, IA, hsl, hok⟩
          refine ⟨rfl, yes_if ?_⟩
          have hl2 : 2 ≤ left := by
            by_cases z : left < 2
            · have := hM1 z; omega
            · omega
          have hi3 : i ≤ 2 := by omega
          have hcc : i * cost m ≤ 2 * cost m := Nat.mul_le_mul_right _ hi3
          refine ⟨_, rfl, _, rfl, _, rfl, _, _, rfl, rfl, d, g, c, hs, n + 1 + i * cost m, ws, left - 1, rfl, D6, K6.at hh hns, hns, hw0, hw6, by omega, by omega, by omega, fun v1 s1 H7 D7 K7 I7 o7 => ?_⟩
          have ej : (left - 1).toNat = j := by omega
          rw [ej] at o7
          have lvs : vs.length = i := by rw [IA.len, List.length_map, hsl]
          have hZ7 := K7.at hZ6 hZD
          refine ⟨vs, hZ7, small1000 (by omega), vs ++ [v1], ss ++ [s1], ?_, (K6.trans K7).mutN (K5.free' hZ hZD), upd_same, ?_, by rw [List.length_append, hsl]; rfl, ?_⟩
          · have e : n + 1 + (i + 1) * cost m = n + 1 + i * cost m + cost m := by rw [Nat.succ_mul]; omega
            rw [e]
            exact D7.put hZD
          · have N : TupS H7 (upd H7 Z (.lst (vs ++ [v1]))) := (TupS.refl H7).mutL hZ7
            rw [List.map_append]
            exact ((IA.mono (K7.tups D6.noTup)).mono N).app (.cons (I7.mono N) .nil)
          · intro p hp
            rcases List.mem_append.mp hp with h | h
            · exact hok p h
            · simp only [List.mem_singleton] at h
              rw [h]; exact o7
        · rintro H6 ⟨vs, ss, D6, K6, hZ6, IA, hsl, hok⟩
          have hMc : M.toNat * cost m ≤ 3 * cost m := Nat.mul_le_mul_right _ (by omega)
          refine ⟨Z, vs, rfl, .inl ⟨SqL.of hZ6, fun l hl => ?_⟩⟩
          refine ⟨by show 3 ≤ sizeLine; decide, fun t ht => ?_⟩
          have N1 := (same_new hl (.tup vs)).tups
          have N2 := (same_new ht (.tup [.str (hApp c0), .str ww, .ref l])).tups
          refine q _ (.app c0 ww ss) _ (((D6.new hl).new ht).le (by omega)) ((K6.new hl).new ht) (mk_app upd_same ?_ ((IA.mono N1).mono N2)) ⟨hxw, by omega, hok⟩
          exact N2 _ _ upd_same
    · intro nxt
      refine ⟨_, rfl, _, _, rfl, rfl, _, rfl, ?_⟩
      refine ite2 (fun c1 => ?_) (fun c1 => ?_)
      · have c1' : left < 2 := of_decide_eq_true c1
        refine ⟨_, rfl, by show 2 ≤ sizeLine; decide, fun p hp => ?_⟩
        have D2 := D1.new hp (o := .lst [.str "name", .str "skip"])
        have K2 := K1.new hp (o := .lst [.str "name", .str "skip"])
        have hh2 := K2.at hh hns
        refine ⟨p, _, rfl, .inl (SqL.of upd_same), rfl, rfl, _, rfl, ?_⟩
        generalize upd H1 p (.lst [.str "name", .str "skip"]) = H2 at D2 K2 hh2
        refine ite2 (fun c2 => ?_) (fun c2 => ?_)
        · refine ⟨by show 2 ≤ sizeLine; decide, fun p2 hp2 => ?_⟩
          have D3 := D2.new hp2 (o := .lst [.str "name", .str "made"])
          have K3 := K2.new hp2 (o := .lst [.str "name", .str "made"])
          have hh3 := K3.at hh hns
          have hp3 : upd H2 p2 (.lst [.str "name", .str "made"]) p2 = some (.lst [.str "name", .str "made"]) := upd_same
          generalize upd H2 p2 (.lst [.str "name", .str "made"]) = H3 at D3 K3 hh3 hp3
          refine ⟨_, rfl, hs, _, rfl, .inl (SqL.of hh3), rfl, flat_strs ws, _, rfl, ?_⟩
          refine ite2 (fun c3 => ?_) (fun c3 => ?_)
          · refine .inr ⟨_, rfl, p2, _, _, .str "made", rfl, rfl, SqL.of hp3, rfl, ?_⟩
            exact nxt _ _ ⟨"made", rfl, D3, K3, .inr rfl, fun _ => .inr (.inr rfl)⟩
          · have hname : (("name" : Str) ∈ ws) := by
              cases hv : inV (.str "name") (ws.map V.str) with
              | true => exact inV_strs.mp hv
              | false => rw [hv] at c3; exact absurd rfl c3
            refine ⟨_, rfl, _, _, rfl, rfl, ⟨by decide, by decide⟩, _, _, rfl, rfl, by show (0 : Int) < 2; decide, rfl, ?_⟩
            refine .inr ⟨_, rfl, ?_⟩
            cases decide (V.int (k / 8 % 2) = V.int 0) with
            | true =>
              refine ⟨p2, _, _, .str "made", rfl, rfl, SqL.of hp3, rfl, ?_⟩
              exact nxt _ _ ⟨"made", rfl, D3, K3, .inr rfl, fun _ => .inr (.inr rfl)⟩
            | false =>
              refine ⟨p2, _, _, .str "name", rfl, rfl, SqL.of hp3, rfl, ?_⟩
              exact nxt _ _ ⟨"name", rfl, D3, K3, .inl hname, fun _ => .inl rfl⟩
        · have hin : x0 ∈ (["name", "skip"] : List Str) := by
            cases hv : inV (.str x0) [.str "name", .str "skip"] with
            | true => exact inV_strs (ws := ["name", "skip"]).mp hv
            | false => rw [hv] at c2; exact absurd rfl c2
          refine nxt _ _ ⟨x0, rfl, D2, K2, .inl hx0m, fun _ => ?_⟩
          simp only [List.mem_cons, List.not_mem_nil, or_false] at hin
          rcases hin with h | h
          · exact .inl h
          · exact .inr (.inl h)
      · refine nxt _ _ ⟨x0, rfl, D1, K1, .inl hx0m, fun z => ?_⟩
        exact absurd z (of_decide_eq_false (Bool.eq_false_iff.mpr c1))
end
end Nf


set_option Elab.async false
set_option linter.all false
set_option maxRecDepth 100000
namespace Nf
open PySem L2
section
variable {P : Program} {w : World} {K : PySem.W.Frag} {mg : Str → Option Value} {base : Heap} {f fp fw fr : Addr} {fd fpd fwd frd : FuncData}
/-! ### parts_of -/
abbrev s_parts_of : Stmt := top 1
abbrev N_parts_of : List Str := ["node"]
abbrev P_parts_of : List Str := ["node"]
theorem sc_parts_of : FnScope N_parts_of P_parts_of (defScope s_parts_of) := ⟨rfl, rfl, rfl, by decide +kernel, rfl, by decide +kernel, by decide +kernel⟩
def spParts : Sp := fun vs H Q _ => ∃ (v : V) (s : Say), vs = [v] ∧ Is H v s.da ∧ ∀ b xs H', Same H H' → H' b = some (.tup xs) → IsA H' xs (s.parts.map Say.da) → Q (.ref b) H'
theorem ok_parts (T : Bt mg) (C_parts_of : Cal K mg "parts_of" s_parts_of P_parts_of f fd) : FnOk P w K mg base CX0 1 f fd P_parts_of spParts := by
  refine C_parts_of.F.ok sc_parts_of (fun vs H Q E h => ?_) (fun cdv A outer s H vs Q E hr h => ?_)
  · obtain ⟨v, s, rfl, _⟩ := h
    rfl
  obtain ⟨v, s, rfl, hv, q⟩ := h
  refine ⟨_, PSs.nox (pss_cons (ps_if (pt_cmpR op_in_seq (pe_ix ix_tup (pv 0) pe_int (fun _ _ => rfl)) (pe_tup (pa_cons pe_str (pa_cons pe_str pa_nil))) (by rfl)) (pss_one (ps_ret (pe_ix ix_tup (pv 0) pe_int (fun _ _ => rfl)))) pss_nil)
    (pss_cons (ps_if (pt_cmpR op_in_seq (pe_ix ix_tup (pv 0) pe_int (fun _ _ => rfl)) (pe_tup (pa_cons pe_str (pa_cons pe_str pa_nil))) (by rfl)) (pss_one (ps_ret (pe_slice sl_tupA (pv 0) (po_some pe_int) po_none))) pss_nil)
    (pss_one (ps_ret (pe_tup pa_nil))))), ?_⟩
  obtain ⟨a, r, rfl, ha⟩ := is_head hv
  refine ⟨_, rfl, a, _, _, .str s.head, rfl, rfl, SqT.of ha, at0, by show 2 ≤ sizeLine; decide, fun p hp => ⟨p, _, rfl, .inr (SqT.of upd_same), rfl, rfl, _, rfl, ?_⟩⟩
  have S1 := same_new hp (.tup [.str "made", .str "call"])
  have hv1 := hv.mono S1.tups
  have ha1 := S1 _ _ ha
  generalize upd H p (.tup [.str "made", .str "call"]) = H1 at S1 hv1 ha1
  cases s with
  | app c w ps =>
    refine ifBT (in_mc _) ?_
    obtain ⟨a', b, xs, e, h1, h2, h3⟩ := is_app hv1
    cases e
    refine ⟨_, rfl, _, _, _, _, rfl, rfl, SqT.of h1, rfl, ?_⟩
    exact q b xs H1 S1 h2 h3
  | two c s t =>
    refine ifBF (in_mc _) ?_
    refine ⟨_, rfl, a, _, _, _, rfl, rfl, SqT.of ha1, at0, by show 2 ≤ sizeLine; decide, fun p2 hp2 => ⟨p2, _, rfl, .inr (SqT.of upd_same), rfl, rfl, _, rfl, ?_⟩⟩
    refine ifBT (in_es _) ?_
    have S2 := S1.new hp2 (o := .tup [.str "either", .str "same"])
    have hv2 := hv.mono S2.tups
    generalize upd H1 p2 (.tup [.str "either", .str "same"]) = H2 at S2 hv2
    obtain ⟨a', x, y, e, h1, h2, h3⟩ := is_two hv2
    cases e
    refine ⟨_, rfl, _, rfl, sl_any h1 fun p3 H3 S3 h4 => ?_⟩
    rw [cut_from1] at h4
    exact q p3 _ H3 (S2.trans S3) h4 (.cons (h2.mono S3.tups) (.cons (h3.mono S3.tups) .nil))
  | name x =>
    refine ifBF (in_mc _) ?_
    refine ⟨_, rfl, a, _, _, _, rfl, rfl, SqT.of ha1, at0, by show 2 ≤ sizeLine; decide, fun p2 hp2 => ⟨p2, _, rfl, .inr (SqT.of upd_same), rfl, rfl, _, rfl, ?_⟩⟩
    refine ifBF (in_es _) ?_
    have S2 := S1.new hp2 (o := .tup [.str "either", .str "same"])
    refine ⟨by show 0 ≤ sizeLine; decide, fun p3 hp3 => ?_⟩
    exact q p3 [] _ (S2.new hp3) upd_same .nil
  | skip =>
    refine ifBF (in_mc _) ?_
    refine ⟨_, rfl, a, _, _, _, rfl, rfl, SqT.of ha1, at0, by show 2 ≤ sizeLine; decide, fun p2 hp2 => ⟨p2, _, rfl, .inr (SqT.of upd_same), rfl, rfl, _, rfl, ?_⟩⟩
    refine ifBF (in_es _) ?_
    have S2 := S1.new hp2 (o := .tup [.str "either", .str "same"])
    refine ⟨by show 0 ≤ sizeLine; decide, fun p3 hp3 => ?_⟩
    exact q p3 [] _ (S2.new hp3) upd_same .nil
/-! ### with_parts -/
abbrev s_with_parts : Stmt := top 2
abbrev N_with_parts : List Str := ["node", "parts"]
abbrev P_with_parts : List Str := ["node", "parts"]
theorem sc_with_parts : FnScope N_with_parts P_with_parts (defScope s_with_parts) := ⟨rfl, rfl, rfl, by decide +kernel, rfl, by decide +kernel, by decide +kernel⟩
def spWith : Sp := fun vs H Q _ => ∃ (v : V) (b : Addr) (xs : List V) (s : Say) (ps : List Say), vs = [v, .ref b] ∧ Is H v s.da ∧ H b = some (.tup xs) ∧ IsA H xs (ps.map Say.da) ∧ ps.length = s.parts.length ∧ ps.length ≤ 3 ∧
  ∀ v' H', Same H H' → Is H' v' (s.withP ps).da → Q v' H'
theorem ok_with (T : Bt mg) (C_with_parts : Cal K mg "with_parts" s_with_parts P_with_parts f fd) : FnOk P w K mg base CX0 1 f fd P_with_parts spWith := by
  refine C_with_parts.F.ok sc_with_parts (fun vs H Q E h => ?_) (fun cdv A outer s H vs Q E hr h => ?_)
  · obtain ⟨v, b, xs, s, ps, rfl, _⟩ := h
    rfl
  obtain ⟨v, b, xs, s, ps, rfl, hv, hb, hxs, hl, hl3, q⟩ := h
  refine ⟨_, PSs.nox (pss_cons (ps_if (pt_cmpR op_in_seq (pe_ix ix_tup (pv 0) pe_int (fun _ _ => rfl)) (pe_tup (pa_cons pe_str (pa_cons pe_str pa_nil))) (by rfl)) (pss_one (ps_ret (pe_tup (pa_cons (pe_ix ix_tup (pv 0) pe_int (fun _ _ => rfl)) (pa_cons (pe_ix ix_tup (pv 0) pe_int (fun _ _ => rfl)) (pa_cons (pv 1) pa_nil)))))) pss_nil)
    (pss_cons (ps_if (pt_cmpR op_in_seq (pe_ix ix_tup (pv 0) pe_int (fun _ _ => rfl)) (pe_tup (pa_cons pe_str (pa_cons pe_str pa_nil))) (by rfl)) (pss_one (ps_ret (pe_tup (pa_cons (pe_ix ix_tup (pv 0) pe_int (fun _ _ => rfl)) (StX.pa_star (pv 1) pa_nil))))) pss_nil)
    (pss_one (ps_ret (pv 0))))), ?_⟩
  obtain ⟨a, r, rfl, ha⟩ := is_head hv
  refine ⟨_, rfl, a, _, _, .str s.head, rfl, rfl, SqT.of ha, at0, by show 2 ≤ sizeLine; decide, fun p hp => ⟨p, _, rfl, .inr (SqT.of upd_same), rfl, rfl, _, rfl, ?_⟩⟩
  have S1 := same_new hp (.tup [.str "made", .str "call"])
  have hv1 := hv.mono S1.tups
  have ha1 := S1 _ _ ha
  have hb1 := S1 _ _ hb
  have hxs1 := hxs.mono S1.tups
  generalize upd H p (.tup [.str "made", .str "call"]) = H1 at S1 hv1 ha1 hb1 hxs1
  cases s with
  | app c w ps0 =>
    refine ifBT (in_mc _) ?_
    obtain ⟨a', b', xs', e, h1, h2, h3⟩ := is_app hv1
    cases e
    refine ⟨_, rfl, _, _, _, _, rfl, rfl, SqT.of h1, rfl, _, rfl, _, _, _, _, rfl, rfl, SqT.of h1, rfl, _, rfl, by show 3 ≤ sizeLine; decide, fun t ht => ?_⟩
    have N := (same_new ht (.tup [.str (hApp c), .str w, .ref b])).tups
    exact q _ _ (S1.new ht) (mk_app upd_same (N _ _ hb1) (hxs1.mono N))
  | two c s t =>
    refine ifBF (in_mc _) ?_
    refine ⟨_, rfl, a, _, _, _, rfl, rfl, SqT.of ha1, at0, by show 2 ≤ sizeLine; decide, fun p2 hp2 => ⟨p2, _, rfl, .inr (SqT.of upd_same), rfl, rfl, _, rfl, ?_⟩⟩
    refine ifBT (in_es _) ?_
    have S2 := S1.new hp2 (o := .tup [.str "either", .str "same"])
    have hv2 := hv.mono S2.tups
    have hb2 := S2 _ _ hb
    have hxs2 := hxs.mono S2.tups
    generalize upd H1 p2 (.tup [.str "either", .str "same"]) = H2 at S2 hv2 hb2 hxs2
    obtain ⟨a', x, y, e, h1, h2, h3⟩ := is_two hv2
    cases e
    match ps, hl, hxs2 with
    | [s1, s2], _, hxs2 =>
      cases hxs2 with
      | @cons u1 _ _ _ i1 r1 =>
        cases r1 with
        | @cons u2 _ _ _ i2 r2 =>
          cases r2
          refine ⟨_, rfl, _, _, _, _, rfl, rfl, SqT.of h1, rfl, _, rfl, b, _, rfl, .inl (SqT.of hb2), by show 3 ≤ sizeLine; decide, fun t ht => ?_⟩
          have N := (same_new ht (.tup [.str (hTwo c), u1, u2])).tups
          exact q _ _ (S2.new ht) (mk_two upd_same (i1.mono N) (i2.mono N))
  | name x =>
    refine ifBF (in_mc _) ?_
    refine ⟨_, rfl, a, _, _, _, rfl, rfl, SqT.of ha1, at0, by show 2 ≤ sizeLine; decide, fun p2 hp2 => ⟨p2, _, rfl, .inr (SqT.of upd_same), rfl, rfl, _, rfl, ?_⟩⟩
    refine ifBF (in_es _) ?_
    have S2 := S1.new hp2 (o := .tup [.str "either", .str "same"])
    refine ⟨_, rfl, ?_⟩
    exact q _ _ S2 (hv.mono S2.tups)
  | skip =>
    refine ifBF (in_mc _) ?_
    refine ⟨_, rfl, a, _, _, _, rfl, rfl, SqT.of ha1, at0, by show 2 ≤ sizeLine; decide, fun p2 hp2 => ⟨p2, _, rfl, .inr (SqT.of upd_same), rfl, rfl, _, rfl, ?_⟩⟩
    refine ifBF (in_es _) ?_
    have S2 := S1.new hp2 (o := .tup [.str "either", .str "same"])
    refine ⟨_, rfl, ?_⟩
    exact q _ _ S2 (hv.mono S2.tups)
/-! ### replaced -/
abbrev s_replaced : Stmt := top 4
abbrev N_replaced : List Str := ["saying", "given", "part"]
abbrev P_replaced : List Str := ["saying", "given"]
theorem sc_replaced : FnScope N_replaced P_replaced (defScope s_replaced) := ⟨rfl, rfl, rfl, by decide +kernel, rfl, by decide +kernel, by decide +kernel⟩
def spRepl (n : Nat) : Sp := fun vs H Q _ => ∃ (v : V) (dg : Addr) (kvs : List (Key × V)) (s : Say) (fs : Fl), vs = [v, .ref dg] ∧ Is H v s.da ∧ Say.ok (fun _ => True) n s ∧ H dg = some (.dK kvs) ∧ DR H kvs fs ∧
  ∀ v' H', Same H H' → Is H' v' (s.fill fs).da → Q v' H'
theorem ok_repl (T : Bt mg) (C_replaced : Cal K mg "replaced" s_replaced P_replaced f fd) (C_parts_of : Cal K mg "parts_of" s_parts_of P_parts_of fp fpd) (G_parts_of : FnOk P w K mg base CX0 1 fp fpd P_parts_of spParts)
    (C_with_parts : Cal K mg "with_parts" s_with_parts P_with_parts fw fwd) (G_with_parts : FnOk P w K mg base CX0 1 fw fwd P_with_parts spWith) : ∀ n : Nat, FnOk P w K mg base CX0 (n + 2) f fd P_replaced (spRepl n)
  | 0 => fn_never fun vs H Q E ⟨_, _, _, _, _, _, _, h, _⟩ => h
  | n + 1 => by
    have G_replaced := ok_repl T C_replaced C_parts_of G_parts_of C_with_parts G_with_parts n
    refine C_replaced.F.ok sc_replaced (fun vs H Q E h => ?_) (fun cdv A outer s H vs Q E hr h => ?_)
    · obtain ⟨v, dg, kvs, s, fs, rfl, _⟩ := h
      rfl
    obtain ⟨v, dg, kvs, s, fs, rfl, hv, hok, hdg, hD, q⟩ := h
    refine ⟨_, PSs.nox (pss_cons (ps_if (pt_cmpR op_eq (pe_ix ix_tup (pv 0) pe_int (fun _ _ => rfl)) pe_str (nomark _)) (pss_one (ps_ret (pe_dget2 (hu_of hr) (pv 1) (pe_ix ix_tup (pv 0) pe_int (fun _ _ => rfl)) (pv 0) ⟨by rfl, by rfl, by rfl, by rfl⟩))) pss_nil)
      (pss_one (ps_ret (pe_call G_with_parts (hr.mono (by omega)) (by rfl) C_with_parts.m C_with_parts.F.kp C_with_parts.b .nil pass0 (pa_cons (pv 0) (pa_cons (pe_callTy call_tuple_of (by rfl) T.t_tuple (by decide +kernel) (pa_cons (pe_lc (own := [("part", 2)]) (g := gName 2) (tt := tYes) (by rfl) sc_replaced.nd (pi_tup (pe_call G_parts_of (hr.mono (by omega)) (by rfl) C_parts_of.m C_parts_of.F.kp C_parts_of.b .nil pass0 (pa_cons (pv 0) pa_nil))) (blkOk_by (own := [("part", 2)]) (N := N_replaced) (sc := defScope s_replaced) (by decide +kernel)) (fun _ _ _ _ _ => (pg_name (i := 2) sc_replaced.nd rfl (Or.inl rfl))) (fun _ _ _ _ _ => pts_nil) (fun _ _ _ _ _ => (pe_call G_replaced (hr.mono (by omega)) (by rfl) C_replaced.m C_replaced.F.kp C_replaced.b .nil pass0 (pa_cons (pv 2) (pa_cons (pv 1) pa_nil))))) pa_nil)) pa_nil)))))), ?_⟩
    obtain ⟨a, r, rfl, ha⟩ := is_head hv
    refine ⟨_, rfl, a, _, _, .str s.head, rfl, rfl, SqT.of ha, at0, rfl, _, rfl, ?_⟩
    refine ite2 (fun c => ?_) (fun c => ?_)
    · have c' : s.head = "name" := V.str.inj (of_decide_eq_true c)
      cases s with
      | name x =>
        obtain ⟨a', e, h1⟩ := is_name hv
        cases e
        refine ⟨_, rfl, dg, rfl, .inl ⟨kvs, .inl hdg⟩, _, rfl, _, _, _, _, rfl, rfl, SqT.of h1, rfl, _, rfl, valV kvs (Sum.inr x), DGet.k (k := Sum.inr x) hdg, ?_⟩
        cases hl : fs.lookup x with
        | none =>
          rw [(hD x).2 hl]
          refine q _ H (Same.refl H) ?_
          rw [Say.fill_name, hl]
          exact hv
        | some s' =>
          obtain ⟨u, hu, hi⟩ := (hD x).1 s' hl
          rw [hu]
          refine q _ H (Same.refl H) ?_
          rw [Say.fill_name, hl]
          exact hi
      | skip => exact absurd c' head_skip
      | app b _ _ => exact absurd c' head_app
      | two b _ _ => exact absurd c' head_two
    · have c' : s.head ≠ "name" := fun e => c (decide_eq_true (congrArg V.str e))
      rw [Say.fill_parts c'] at q
      have hp3 := Say.parts_le hok
      have hop := Say.ok_parts hok
      refine ⟨_, rfl, _, rfl, _, s, rfl, hv, fun b xs H1 S1 hb hxs => ?_⟩
      refine ⟨b, rfl, ⟨_, SqT.of hb⟩, fun Z hZ => ?_⟩
      refine lc_it (walk_tup (xs := xs)) (fun i H' => ∃ vs : List V, Same H1 H' ∧ H' Z = some (.lst vs) ∧ IsA H' vs ((s.parts.take i).map fun p => (p.fill fs).da)) ?_ ?_ ?_ ?_
      · exact ⟨[], same_new hZ _, upd_same, .nil⟩
      · rintro i H2 _ ⟨vs, h, _⟩
        exact SqT.of (h _ _ hb)
      · rintro i x H2 H3 hi ⟨vs, S2, hZ2, IA⟩ ⟨rfl, hx⟩
        obtain ⟨p, hp, hxp⟩ := hxs.map_get hx
        have hil : i < s.parts.length := (List.getElem?_eq_some_iff.mp hp).1
        refine ⟨rfl, yes_if ?_⟩
        refine ⟨_, rfl, _, rfl, x, dg, kvs, p, fs, rfl, hxp.mono S2.tups, hop p (List.mem_of_getElem? hp), S2 _ _ (S1 _ _ hdg), (hD.mono S1.tups).mono S2.tups, fun v' H' S' I' => ?_⟩
        have lvs : vs.length = i := by rw [IA.len, List.length_map, List.length_take]; omega
        refine ⟨vs, S' _ _ hZ2, small1000 (by omega), vs ++ [v'], (S2.trans S').mutN hZ, upd_same, ?_⟩
        have N : TupS H' (upd H' Z (.lst (vs ++ [v']))) := (TupS.refl H').mutL (S' _ _ hZ2)
        rw [List.take_add_one, hp, List.map_append]
        exact ((IA.mono S'.tups).mono N).app (.cons (I'.mono N) .nil)
      · rintro H2 ⟨vs, S2, hZ2, IA⟩
        have lxs : xs.length = s.parts.length := by rw [hxs.len, List.length_map]
        rw [lxs, List.take_length] at IA
        refine ⟨Z, vs, rfl, .inl ⟨SqL.of hZ2, fun l hl => ?_⟩⟩
        have S3 := (S1.trans S2).new hl (o := .tup vs)
        refine ⟨_, l, vs, s, s.parts.map (Say.fill fs), rfl, hv.mono S3.tups, upd_same, ?_, List.length_map _, by rw [List.length_map]; exact hp3, fun v' H' S' I' => q v' H' (S3.trans S') I'⟩
        rw [List.map_map]
        exact IA.mono (same_new hl _).tups
/-! ### filled -/
abbrev s_filled : Stmt := top 3
abbrev N_filled : List Str := ["saying", "fills", "name", "given"]
abbrev P_filled : List Str := ["saying", "fills"]
theorem sc_filled : FnScope N_filled P_filled (defScope s_filled) := ⟨rfl, rfl, rfl, by decide +kernel, rfl, by decide +kernel, by decide +kernel⟩
def spFilled (n : Nat) : Sp := fun vs H Q _ => ∃ (v u : V) (s : Say) (fs : Fl), vs = [v, u] ∧ Is H v s.da ∧ Say.ok (fun _ => True) n s ∧ Is H u (flDa fs) ∧ fs.length ≤ 1000 ∧ (fs.map Prod.fst).Nodup ∧
  ∀ v' H', Same H H' → Is H' v' (s.fill fs).da → Q v' H'
theorem ok_filled {n : Nat} (T : Bt mg) (C_filled : Cal K mg "filled" s_filled P_filled f fd) (C_replaced : Cal K mg "replaced" s_replaced P_replaced fr frd) (G_replaced : FnOk P w K mg base CX0 (n + 2) fr frd P_replaced (spRepl n)) : FnOk P w K mg base CX0 (n + 3) f fd P_filled (spFilled n) := by
  refine C_filled.F.ok sc_filled (fun vs H Q E h => ?_) (fun cdv A outer s H vs Q E hr h => ?_)
  · obtain ⟨v, u, s, fs, rfl, _⟩ := h
    rfl
  obtain ⟨v, u, s, fs, rfl, hv, hok, hu, hfl, hnd, q⟩ := h
  refine ⟨_, PSs.nox (pss_one (ps_ret (pe_call G_replaced (hr.mono (by omega)) (by rfl) C_replaced.m C_replaced.F.kp C_replaced.b .nil pass0 (pa_cons (pv 0) (pa_cons (pe_dc (own := [("name", 2), ("given", 3)]) (g := gTup _ 2 (gCons (gName 2) (gCons (gName 3) gNil))) (tt := tYes) (by rfl) sc_filled.nd (pi_tup (pv 1)) (blkOk_by (own := [("name", 2), ("given", 3)]) (N := N_filled) (sc := defScope s_filled) (by decide +kernel)) (fun _ _ _ _ _ => (pg_tup rfl (pgs_cons (pg_name (i := 2) sc_filled.nd rfl (Or.inl rfl)) (pgs_cons (pg_name (i := 3) sc_filled.nd rfl (Or.inl rfl)) pgs_nil)))) (fun _ _ _ _ _ => pts_nil) (fun _ _ _ _ _ => (pv 2)) (fun _ _ _ _ _ => (pv 3))) pa_nil))))), ?_⟩
  obtain ⟨a, xs, rfl, ha, hxs⟩ := is_fl hu
  refine ⟨_, rfl, _, rfl, a, rfl, ⟨_, SqT.of ha⟩, fun Z hZ => ?_⟩
  refine dc_tup (xs := xs) (fun i H' => ∃ kvs, Same H H' ∧ H' Z = some (.dK kvs) ∧ DR H' kvs (fs.take i) ∧ kvs.length ≤ i) ?_ ?_ ?_ ?_
  · exact ⟨[], same_new hZ _, upd_same, fun x => ⟨fun s hs => by simp at hs, fun _ => rfl⟩, Nat.le_refl _⟩
  · rintro i H2 _ ⟨kvs, S, _⟩
    exact SqT.of (S _ _ ha)
  · rintro i x H2 hx ⟨kvs, S, hZ2, hD, hkl⟩
    obtain ⟨p, hp, hxp⟩ := hxs.map_get hx
    have hil : i < fs.length := (List.getElem?_eq_some_iff.mp hp).1
    obtain ⟨b, y, rfl, hb, hy⟩ := is_pair (hxp.mono S.tups)
    refine ⟨b, _, rfl, SqT.of hb, rfl, _, _, rfl, _, _, rfl, rfl, rfl, ?_⟩
    refine yes_if ?_
    refine ⟨_, rfl, _, rfl, kvs, Sum.inr p.1, rfl, hZ2, small1000 (by omega), putK kvs (Sum.inr p.1) y, S.mutN hZ, upd_same, ?_, ?_⟩
    · have N : TupS H2 (upd H2 Z (.dK (putK kvs (Sum.inr p.1) y))) := fun c zs hc => by
        rw [upd_ne (fun e => by rw [e, hZ2] at hc; cases hc)]; exact hc
      rw [List.take_add_one, hp]
      exact (hD.snoc (lookup_none_of (nodup_take hnd hp)) hy).mono N
    · have := put_len (kvs := kvs) (k := Sum.inr p.1) (v := y)
      omega
  · rintro H2 ⟨kvs, S, hZ2, hD, hkl⟩
    have lxs : xs.length = fs.length := by rw [hxs.len, List.length_map]
    rw [lxs, List.take_length] at hD
    exact ⟨v, Z, kvs, s, fs, rfl, hv.mono S.tups, hok, hZ2, hD, fun v' H' S' I' => q v' H' (S.trans S') I'⟩
end
end Nf


set_option Elab.async false
set_option linter.all false
set_option maxRecDepth 100000
namespace Nf
open PySem L2
section
variable {P : Program} {w : World} {K : PySem.W.Frag} {mg : Str → Option Value} {base : Heap} {f fn fm fa : Addr} {fd fnd fmd fad : FuncData}
/-! ### the law's own filling -/
abbrev s_put_in : Stmt := top 12
abbrev N_put_in : List Str := ["_law_saying", "_law_fills_here", "_law_name_here", "_law_one", "_law_part"]
abbrev P_put_in : List Str := ["_law_saying", "_law_fills_here"]
theorem sc_put_in : FnScope N_put_in P_put_in (defScope s_put_in) := ⟨rfl, rfl, rfl, by decide +kernel, rfl, by decide +kernel, by decide +kernel⟩
def spPut (n : Nat) : Sp := fun vs H Q _ => ∃ (v u : V) (s : Say) (fs : Fl), vs = [v, u] ∧ Is H v s.da ∧ Say.ok (fun _ => True) n s ∧ Is H u (flDa fs) ∧
  ∀ v' H', Same H H' → Is H' v' (s.fill fs).da → Q v' H'
theorem ok_put (T : Bt mg) (C_put_in : Cal K mg "_law_put_in" s_put_in P_put_in f fd) : ∀ n : Nat, FnOk P w K mg base CX0 (n + 1) f fd P_put_in (spPut n)
  | 0 => fn_never fun vs H Q E ⟨_, _, _, _, _, _, h, _⟩ => h
  | n + 1 => by
    have G_put_in := ok_put T C_put_in n
    refine C_put_in.F.ok sc_put_in (fun vs H Q E h => ?_) (fun cdv A outer s H vs Q E hr h => ?_)
    · obtain ⟨v, u, s, fs, rfl, _⟩ := h
      rfl
    obtain ⟨v, u, s, fs, rfl, hv, hok, hu, q⟩ := h
    refine ⟨_, PSs.nox (pss_cons (ps_if (pt_cmpR op_eq (pe_ix ix_tup (pv 0) pe_int (fun _ _ => rfl)) pe_str (nomark _)) (pss_cons (ps_for PassesOwn.never (by rfl) (pi_tup (pv 1)) (pg_tup (by rfl) (pgs_cons (pg_name (i := 2) sc_put_in.nd rfl (Or.inl rfl)) (pgs_cons (pg_name (i := 3) sc_put_in.nd rfl (Or.inl rfl)) pgs_nil))) (pss_one (ps_if (pt_cmpR op_eq (pv 2) (pe_ix ix_tup (pv 0) pe_int (fun _ _ => rfl)) (nomark _)) (pss_one (ps_ret (pv 3))) pss_nil)))
      (pss_one (ps_ret (pv 0)))) pss_nil)
      (pss_cons (ps_if (pt_cmpR op_in_seq (pe_ix ix_tup (pv 0) pe_int (fun _ _ => rfl)) (pe_lst (pa_cons pe_str (pa_cons pe_str pa_nil))) (by rfl)) (pss_one (ps_ret (pe_tup (pa_cons (pe_ix ix_tup (pv 0) pe_int (fun _ _ => rfl)) (pa_cons (pe_ix ix_tup (pv 0) pe_int (fun _ _ => rfl)) (pa_cons (pe_callTy call_tuple_of (by rfl) T.t_tuple (by decide +kernel) (pa_cons (pe_lc (own := [("_law_part", 4)]) (g := gName 4) (tt := tYes) (by rfl) sc_put_in.nd (pi_tup (pe_ix ix_tup (pv 0) pe_int (fun _ _ => rfl))) (blkOk_by (own := [("_law_part", 4)]) (N := N_put_in) (sc := defScope s_put_in) (by decide +kernel)) (fun _ _ _ _ _ => (pg_name (i := 4) sc_put_in.nd rfl (Or.inl rfl))) (fun _ _ _ _ _ => pts_nil) (fun _ _ _ _ _ => (pe_call G_put_in (hr.mono (by omega)) (by rfl) C_put_in.m C_put_in.F.kp C_put_in.b .nil pass0 (pa_cons (pv 4) (pa_cons (pv 1) pa_nil))))) pa_nil)) pa_nil)))))) pss_nil)
      (pss_one (ps_ret (pe_op op_catA (pe_slice sl_tupA (pv 0) po_none (po_some pe_int)) (pe_callTy call_tuple_of (by rfl) T.t_tuple (by decide +kernel) (pa_cons (pe_lc (own := [("_law_part", 4)]) (g := gName 4) (tt := tYes) (by rfl) sc_put_in.nd (pi_tup (pe_slice sl_tupA (pv 0) (po_some pe_int) po_none)) (blkOk_by (own := [("_law_part", 4)]) (N := N_put_in) (sc := defScope s_put_in) (by decide +kernel)) (fun _ _ _ _ _ => (pg_name (i := 4) sc_put_in.nd rfl (Or.inl rfl))) (fun _ _ _ _ _ => pts_nil) (fun _ _ _ _ _ => (pe_call G_put_in (hr.mono (by omega)) (by rfl) C_put_in.m C_put_in.F.kp C_put_in.b .nil pass0 (pa_cons (pv 4) (pa_cons (pv 1) pa_nil))))) pa_nil))))))), ?_⟩
    obtain ⟨a, r, rfl, ha⟩ := is_head hv
    obtain ⟨b, ys, rfl, hb, hys⟩ := is_fl hu
    have hp3 := Say.parts_le hok
    have hop := Say.ok_parts hok
    refine ⟨_, rfl, a, _, _, .str s.head, rfl, rfl, SqT.of ha, at0, rfl, _, rfl, ?_⟩
    cases s with
    | name x =>
      refine ifT rfl ?_
      obtain ⟨a', e, h1⟩ := is_name hv
      cases e
      refine ⟨_, rfl, b, rfl, ⟨_, SqT.of hb⟩, ?_⟩
      refine for_it (walk_tup (xs := ys)) (fun i σ H' => H' = H ∧ (fs.take i).lookup x = none ∧ ∃ y1 y2, σ = [some (.ref a), some (.ref b), y1, y2, none]) ?_ ?_ ?_ ?_
      · exact ⟨rfl, by rw [List.take_zero]; rfl, none, none, rfl⟩
      · rintro i σ H1 _ ⟨rfl, _⟩
        exact SqT.of hb
      · rintro i x' σ H1 H2 hi ⟨rfl, hno, y1, y2, rfl⟩ ⟨rfl, hx⟩
        obtain ⟨p, hp, hxp⟩ := hys.map_get hx
        obtain ⟨c, y, rfl, hc, hy⟩ := is_pair hxp
        refine ⟨c, _, rfl, SqT.of hc, rfl, _, _, rfl, _, _, rfl, rfl, ?_⟩
        refine ⟨_, rfl, _, rfl, _, _, _, _, rfl, rfl, SqT.of h1, rfl, rfl, _, rfl, ?_⟩
        have el : (fs.take (i + 1)).lookup x = (List.lookup x [p]) := by
          rw [List.take_add_one, hp, List.lookup_append, hno]; rfl
        refine ite2 (fun e => ?_) (fun e => ?_)
        · have e' : p.1 = x := V.str.inj (of_decide_eq_true e)
          refine ⟨_, rfl, ?_⟩
          refine q _ _ (Same.refl _) ?_
          rw [Say.fill_name]
          have hl : fs.lookup x = some p.2 := by
            rw [← List.take_append_drop (i + 1) fs, List.lookup_append, el]
            obtain ⟨p1, p2⟩ := p
            cases e'
            simp [List.lookup]
          rw [hl]
          exact hy
        · have e' : ¬ p.1 = x := fun z => e (decide_eq_true (congrArg V.str z))
          refine ⟨rfl, ?_, _, _, rfl⟩
          rw [el]
          obtain ⟨p1, p2⟩ := p
          have e0 : (x == p1) = false := beq_eq_false_iff_ne.mpr (fun z => e' z.symm)
          simp only [List.lookup, e0]
      · rintro σ H1 ⟨rfl, hno, y1, y2, rfl⟩
        have lys : ys.length = fs.length := by rw [hys.len, List.length_map]
        rw [lys, List.take_length] at hno
        refine ⟨_, rfl, ?_⟩
        refine q _ _ (Same.refl _) ?_
        rw [Say.fill_name, hno]
        exact hv
    | skip =>
      refine ifF (fun e => head_skip (V.str.inj e)) ?_
      obtain ⟨a', e, h1⟩ := is_skip hv
      cases e
      refine ⟨_, rfl, _, _, _, .str Say.skip.head, rfl, rfl, SqT.of ha, at0, by show 2 ≤ sizeLine; decide, fun p hp => ⟨p, _, rfl, .inl (SqL.of upd_same), rfl, rfl, _, rfl, ?_⟩⟩
      refine ifBF (in_mc _) ?_
      have S1 := same_new hp (.lst [.str "made", .str "call"])
      refine ⟨_, rfl, _, rfl, sl_any (S1 _ _ h1) fun p3 H3 S3 h4 => ?_⟩
      rw [cut_to1] at h4
      have S3' := S1.trans S3
      refine ⟨_, rfl, _, rfl, ?_⟩
      dsimp only [tNoPart]
      refine sl_any (S3' _ _ h1) fun p5 H5 S5 h5 => ?_
      rw [cut_from1] at h5
      refine ⟨p5, rfl, ⟨_, SqT.of h5⟩, fun Z hZ => ?_⟩
      refine lc_map (ps := []) (f := Say.da) (g := fun p => (p.fill fs).da) (walk_tup (xs := [])) .nil (fun H6 S6 => SqT.of (S6 _ _ h5)) (by decide) hZ (fun x => rfl) (fun i x p H6 Q hp => by simp at hp) fun H6 us S6 hZ6 IA => ?_
      cases IA
      refine ⟨Z, [], rfl, .inl ⟨SqL.of hZ6, fun l hl => ?_⟩⟩
      have S7 := (S5.trans S6).new hl (o := .tup [])
      refine cat_any (S7 _ _ h4) upd_same (by decide) fun p8 H8 S8 h8 => ?_
      rw [Say.fill_skip] at q
      exact q _ _ ((S3'.trans S7).trans S8) (mk_skip h8)
    | app c w ps =>
      refine ifF (fun e => head_app (V.str.inj e)) ?_
      obtain ⟨a', b', xs, e, h1, h2, h3⟩ := is_app hv
      cases e
      refine ⟨_, rfl, _, _, _, .str (Say.app c w ps).head, rfl, rfl, SqT.of ha, at0, by show 2 ≤ sizeLine; decide, fun p hp => ⟨p, _, rfl, .inl (SqL.of upd_same), rfl, rfl, _, rfl, ?_⟩⟩
      refine ifBT (in_mc _) ?_
      have S1 := same_new hp (.lst [.str "made", .str "call"])
      have k1 := S1 _ _ h1
      refine ⟨_, rfl, _, _, _, _, rfl, rfl, SqT.of k1, rfl, _, rfl, _, _, _, _, rfl, rfl, SqT.of k1, rfl, _, rfl, _, _, _, .ref b', rfl, rfl, SqT.of k1, rfl, b', rfl, ⟨_, SqT.of (S1 _ _ h2)⟩, fun Z hZ => ?_⟩
      refine lc_map (ps := ps) (f := Say.da) (g := fun p => (p.fill fs).da) (walk_tup (xs := xs)) (h3.mono S1.tups) (fun H6 S6 => SqT.of (S6 _ _ (S1 _ _ h2))) (by have : ps.length ≤ 3 := hp3; omega) hZ (fun x => rfl) (fun i x p H6 Q hp S6 Ix hQ => ?_) fun H6 us S6 hZ6 IA => ?_
      · exact ⟨_, rfl, _, rfl, x, _, p, fs, rfl, Ix, hop p (List.mem_of_getElem? hp), hu.mono (S1.trans S6).tups, hQ⟩
      · refine ⟨Z, us, rfl, .inl ⟨SqL.of hZ6, fun l hl => ?_⟩⟩
        refine ⟨by show 3 ≤ sizeLine; decide, fun t ht => ?_⟩
        have N1 := (same_new hl (.tup us)).tups
        have N2 := (same_new ht (.tup [.str (hApp c), .str w, .ref l])).tups
        rw [Say.fill_app] at q
        refine q _ _ (((S1.trans S6).new hl).new ht) (mk_app upd_same (N2 _ _ upd_same) ?_)
        rw [List.map_map]
        exact (IA.mono N1).mono N2
    | two c s t =>
      refine ifF (fun e => head_two (V.str.inj e)) ?_
      obtain ⟨a', x1, y1, e, h1, h2, h3⟩ := is_two hv
      cases e
      refine ⟨_, rfl, _, _, _, .str (Say.two c s t).head, rfl, rfl, SqT.of ha, at0, by show 2 ≤ sizeLine; decide, fun p hp => ⟨p, _, rfl, .inl (SqL.of upd_same), rfl, rfl, _, rfl, ?_⟩⟩
      refine ifBF (in_mc _) ?_
      have S1 := same_new hp (.lst [.str "made", .str "call"])
      refine ⟨_, rfl, _, rfl, sl_any (S1 _ _ h1) fun p3 H3 S3 h4 => ?_⟩
      rw [cut_to1] at h4
      have S3' := S1.trans S3
      refine ⟨_, rfl, _, rfl, ?_⟩
      dsimp only [tNoPart]
      refine sl_any (S3' _ _ h1) fun p5 H5 S5 h5 => ?_
      rw [cut_from1] at h5
      have S5' := S3'.trans S5
      refine ⟨p5, rfl, ⟨_, SqT.of h5⟩, fun Z hZ => ?_⟩
      refine lc_map (ps := [s, t]) (f := Say.da) (g := fun p => (p.fill fs).da) (walk_tup (xs := [x1, y1])) (.cons (h2.mono S5'.tups) (.cons (h3.mono S5'.tups) .nil)) (fun H6 S6 => SqT.of (S6 _ _ h5)) (by simp) hZ (fun x => rfl) (fun i x p H6 Q hp S6 Ix hQ => ?_) fun H6 us S6 hZ6 IA => ?_
      · exact ⟨_, rfl, _, rfl, x, _, p, fs, rfl, Ix, hop p (List.mem_of_getElem? hp), hu.mono (S5'.trans S6).tups, hQ⟩
      · refine ⟨Z, us, rfl, .inl ⟨SqL.of hZ6, fun l hl => ?_⟩⟩
        have S7 := (S5.trans S6).new hl (o := .tup us)
        have N1 := (same_new hl (.tup us)).tups
        have lus : us.length = 2 := IA.len
        refine cat_any (S7 _ _ h4) upd_same (by rw [lus]; simp) fun p8 H8 S8 h8 => ?_
        rw [Say.fill_two] at q
        have IA8 := (IA.mono N1).mono S8.tups
        cases IA8 with
        | cons i1 r1 =>
          cases r1 with
          | cons i2 r2 =>
            cases r2
            exact q _ _ ((S3'.trans S7).trans S8) (mk_two h8 i1 i2)
/-! ### drawn fills -/
abbrev s_fills : Stmt := top 13
abbrev N_fills : List Str := ["_law_deck_here", "_law_found", "_law_passed", "_law_turn", "_law_name_here", "_law_one"]
abbrev P_fills : List Str := ["_law_deck_here"]
theorem sc_fills : FnScope N_fills P_fills (defScope s_fills) := ⟨rfl, rfl, rfl, by decide +kernel, rfl, by decide +kernel, by decide +kernel⟩
def spFills : Sp := fun vs H Q _ => ∃ (d g c : Addr) (n : Nat), vs = [.ref d] ∧ Deck H d g c n ∧ n + 7000 < 2 ^ 40 ∧
  ∀ t fs H', Deck H' d g c (n + 7000) → Keep [d, g, c] H H' → Is H' (.ref t) (flDa fs) → fs.length ≤ 5 → (fs.map Prod.fst).Nodup → (∀ p ∈ fs, Say.ok (fun _ => True) 3 p.2) → Q (.ref t) H'
theorem ok_fills (T : Bt mg) (C_fills : Cal K mg "_law_fills" s_fills P_fills f fd) (C_next : Cal K mg "_law_next" s_next P_next fn fnd) (G_next : FnOk P w K mg base CX0 1 fn fnd P_next spNext)
    (C_name : Cal K mg "_law_name" s_name P_name fm fmd) (G_name : FnOk P w K mg base CX0 3 fm fmd P_name spName) (C_any : Cal K mg "_law_any" s_any P_any fa fad) (G_any : FnOk P w K mg base CX0 (3 + 3) fa fad P_any (spAny 3)) : FnOk P w K mg base CX0 7 f fd P_fills spFills := by
  refine C_fills.F.ok sc_fills (fun vs H Q E h => ?_) (fun cdv A outer s H vs Q E hr h => ?_)
  · obtain ⟨d, g, c, n, rfl, _⟩ := h
    rfl
  obtain ⟨d, g, c, n, rfl, D, hn, q⟩ := h
  refine ⟨_, PSs.nox (pss_cons (ps_set (i := 1) sc_fills.nd rfl (Or.inl rfl) (pe_lst pa_nil))
    (pss_cons (ps_set (i := 2) sc_fills.nd rfl (Or.inl rfl) (pe_lst pa_nil))
    (pss_cons (ps_for PassesOwn.never (by rfl) (pi_range1 (by rfl) T.t_range (pa_cons (pe_op op_mod (pe_call G_next (hr.mono (by omega)) (by rfl) C_next.m C_next.F.kp C_next.b .nil pass0 (pa_cons (pv 0) pa_nil)) pe_int) pa_nil)) (pg_name (i := 3) sc_fills.nd rfl (Or.inl rfl)) (pss_cons (ps_set (i := 4) sc_fills.nd rfl (Or.inl rfl) (pe_call G_name (hr.mono (by omega)) (by rfl) C_name.m C_name.F.kp C_name.b .nil pass0 (pa_cons (pv 0) pa_nil)))
    (pss_cons (ps_set (i := 5) sc_fills.nd rfl (Or.inl rfl) (pe_call G_any (hr.mono (by omega)) (by rfl) C_any.m C_any.F.kp C_any.b .nil pass0 (pa_cons (pv 0) (pa_cons (pe_lst (pa_cons pe_str (pa_cons pe_str (pa_cons pe_str (pa_cons pe_str (pa_cons pe_str (pa_cons pe_str pa_nil))))))) (pa_cons (pe_op op_add pe_int (pe_op op_mod (pe_call G_next (hr.mono (by omega)) (by rfl) C_next.m C_next.F.kp C_next.b .nil pass0 (pa_cons (pv 0) pa_nil)) pe_int)) pa_nil)))))
    (pss_one (ps_if (pt_cmpR op_notIn_seq (pv 4) (pv 2) (by rfl)) (pss_cons (ps_expr (pe_bm PySem.F.plainAttrs_list PySem.F.slot_list_append PySem.F.type_list_append mt_append (pv 2) (pa_cons (pv 4) pa_nil)))
    (pss_one (ps_expr (pe_bm PySem.F.plainAttrs_list PySem.F.slot_list_append PySem.F.type_list_append mt_append (pv 1) (pa_cons (pe_tup (pa_cons (pv 4) (pa_cons (pv 5) pa_nil))) pa_nil))))) pss_nil)))))
    (pss_one (ps_ret (pe_callTy call_tuple_of (by rfl) T.t_tuple (by decide +kernel) (pa_cons (pv 1) pa_nil))))))), ?_⟩
  have c3 : cost 3 = 1280 := rfl
  refine ⟨by show 0 ≤ sizeLine; decide, fun fo hfo => ?_⟩
  have nfo := D.not_new hfo
  have D1 := D.new hfo (o := .lst [])
  have K1 : Keep [d, g, c] H (upd H fo (.lst [])) := (Keep.refl _ _).new hfo
  have e1 : upd H fo (.lst []) fo = some (.lst []) := upd_same
  generalize upd H fo (.lst []) = H1 at D1 K1 e1
  refine ⟨by show 0 ≤ sizeLine; decide, fun pa hpa => ?_⟩
  have npa := D1.not_new hpa
  have hne : fo ≠ pa := ne_of_none e1 hpa
  have D2 := D1.new hpa (o := .lst [])
  have K2 := K1.new hpa (o := .lst [])
  have e2 : upd H1 pa (.lst []) pa = some (.lst []) := upd_same
  have e1' : upd H1 pa (.lst []) fo = some (.lst []) := by rw [upd_ne hne]; exact e1
  have hpa0 : H pa = none := K1.free' hpa npa
  generalize upd H1 pa (.lst []) = H2 at D2 K2 e2 e1'
  refine ⟨_, rfl, d, g, c, n, rfl, D2, by omega, fun k H3 hk0 hk1 D3 K3 => ?_⟩
  have hr6 := mod_range (k := k) (m := 6) (by decide)
  refine ⟨_, _, rfl, rfl, by show (0 : Int) < 6; decide, _, rfl, by omega, by omega, ?_⟩
  refine for_range (lo := 0) (n := (k % 6).toNat) (fun i σ H' => ∃ (us : List V) (ns : List Str) (fs : Fl) (y1 y2 y3 : Option V), σ = [some (.ref d), some (.ref fo), some (.ref pa), y1, y2, y3] ∧ Deck H' d g c (n + 1 + i * 1300) ∧ Keep [d, g, c] H H' ∧
    H' fo = some (.lst us) ∧ IsA H' us (fs.map pairDa) ∧ H' pa = some (.lst (ns.map V.str)) ∧ ns = fs.map Prod.fst ∧ fs.length ≤ i ∧ (fs.map Prod.fst).Nodup ∧ ∀ p ∈ fs, Say.ok (fun _ => True) 3 p.2) ?_ ?_ ?_
  · exact ⟨[], [], [], none, none, none, rfl, by simpa using D3, K2.trans K3, K3.at e1' nfo, .nil, K3.at e2 npa, rfl, Nat.le_refl _, List.nodup_nil, by simp⟩
  · rintro i σ H4 hi ⟨us, ns, fs, y1, y2, y3, rfl, D4, K4, hfo4, IA, hpa4, ens, hfl, hnd, hok⟩
    have hi5 : i ≤ 4 := by omega
    have hi5' : i * 1300 ≤ 4 * 1300 := Nat.mul_le_mul_right _ hi5
    refine ⟨_, rfl, d, g, c, n + 1 + i * 1300, rfl, D4, by omega, fun x H5 D5 K5 => ?_⟩
    have K5' := K4.trans K5
    refine ⟨_, rfl, by show 6 ≤ sizeLine; decide, fun hs hhs => ?_⟩
    have nhs := D5.not_new hhs
    have D6 := D5.new hhs (o := .lst [.str "name", .str "made", .str "call", .str "either", .str "same", .str "skip"])
    have K6 := K5.new hhs (o := .lst [.str "name", .str "made", .str "call", .str "either", .str "same", .str "skip"])
    have e6 : upd H5 hs (.lst [.str "name", .str "made", .str "call", .str "either", .str "same", .str "skip"]) hs = some (.lst (heads6.map V.str)) := upd_same
    generalize upd H5 hs (.lst [.str "name", .str "made", .str "call", .str "either", .str "same", .str "skip"]) = H6 at D6 K6 e6
    refine ⟨_, rfl, d, g, c, _, rfl, D6, by omega, fun k2 H7 hk20 hk21 D7 K7 => ?_⟩
    have hr3 := mod_range (k := k2) (m := 3) (by decide)
    refine ⟨_, _, rfl, rfl, by show (0 : Int) < 3; decide, _, _, rfl, rfl, d, g, c, hs, _, heads6, 1 + k2 % 3, rfl, D7, K7.at e6 nhs, nhs, by decide, fun x hx => hx, by omega, by omega, by omega, fun v s H8 D8 K8 I8 o8 => ?_⟩
    have K58 := (K6.trans K7).trans K8
    have o8' : Say.ok (fun _ => True) 3 s := Say.ok_mono (by omega) (Say.ok_imp (fun _ _ => True.intro) o8)
    have hpa8 := K58.at hpa4 npa
    have hfo8 := K58.at hfo4 nfo
    have IA8 := IA.mono (K58.tups D4.noTup)
    refine ⟨_, rfl, _, rfl, pa, _, rfl, .inl (SqL.of hpa8), rfl, flat_strs ns, _, rfl, ?_⟩
    have eD : n + 1 + i * 1300 + 10 + 1 + cost 3 ≤ n + 1 + (i + 1) * 1300 := by omega
    refine ite2 (fun c1 => ?_) (fun c1 => ?_)
    · have hxn : x ∉ ns := fun hx => by
        rw [inV_strs.mpr hx] at c1
        exact absurd c1 (by decide)
      refine ⟨_, rfl, .inl ⟨rfl, _, SqL.of hpa8⟩, _, rfl, pa, _, _, rfl, rfl, hpa8, small1000 (by rw [List.length_map, ens, List.length_map]; omega), ?_⟩
      have D9 := D8.put npa (o := .lst (ns.map V.str ++ [.str x]))
      have N9 : TupS H8 (upd H8 pa (.lst (ns.map V.str ++ [.str x]))) := (TupS.refl H8).mutL hpa8
      have hfo9 : upd H8 pa (.lst (ns.map V.str ++ [.str x])) fo = some (.lst us) := by rw [upd_ne hne]; exact hfo8
      have hpa9 : upd H8 pa (.lst (ns.map V.str ++ [.str x])) pa = some (.lst (ns.map V.str ++ [.str x])) := upd_same
      have K9 : Keep [d, g, c] H (upd H8 pa (.lst (ns.map V.str ++ [.str x]))) := (K4.trans K58).mutN hpa0
      generalize upd H8 pa (.lst (ns.map V.str ++ [.str x])) = H9 at D9 N9 hfo9 hpa9 K9
      refine ⟨_, rfl, .inl ⟨rfl, _, SqL.of hfo9⟩, _, rfl, _, rfl, by show 2 ≤ sizeLine; decide, fun t ht => ?_⟩
      have Nt := (same_new ht (.tup [.str x, v])).tups
      have hft : fo ≠ t := ne_of_none hfo9 ht
      have hpt : pa ≠ t := ne_of_none hpa9 ht
      have lus : us.length = fs.length := by rw [IA.len, List.length_map]
      have hfoT : upd H9 t (.tup [.str x, v]) fo = some (.lst us) := by rw [upd_ne hft]; exact hfo9
      refine ⟨fo, us, _, rfl, rfl, hfoT, small1000 (by omega), ?_⟩
      have Nf' : TupS (upd H9 t (.tup [.str x, v])) (upd (upd H9 t (.tup [.str x, v])) fo (.lst (us ++ [.ref t]))) := (TupS.refl _).mutL hfoT
      refine ⟨us ++ [.ref t], ns ++ [x], fs ++ [(x, s)], _, _, _, rfl, ((D9.new ht).put nfo).le eD, (K9.new ht).mutN hfo, upd_same, ?_, ?_, by rw [ens, List.map_append]; rfl, by rw [List.length_append]; show fs.length + 1 ≤ i + 1; omega, ?_, ?_⟩
      · rw [List.map_append]
        refine (((IA8.mono N9).mono Nt).mono Nf').app (.cons ?_ .nil)
        exact .tup (Nf' _ _ upd_same) (.cons (.str x) (.cons (((I8.mono N9).mono Nt).mono Nf') .nil))
      · rw [upd_ne (Ne.symm hne), upd_ne hpt, hpa9, List.map_append]; rfl
      · rw [List.map_append, List.nodup_append]
        refine ⟨hnd, by simp, fun a ha b hb => ?_⟩
        simp at hb
        subst hb
        intro e
        rw [ens] at hxn
        exact hxn (e ▸ ha)
      · intro p hp
        rcases List.mem_append.mp hp with h | h
        · exact hok p h
        · simp only [List.mem_singleton] at h
          rw [h]; exact o8'
    · exact ⟨us, ns, fs, _, _, _, rfl, D8.le eD, K4.trans K58, hfo8, IA8, hpa8, ens, by omega, hnd, hok⟩
  · rintro σ H4 ⟨us, ns, fs, y1, y2, y3, rfl, D4, K4, hfo4, IA, hpa4, ens, hfl, hnd, hok⟩
    refine ⟨_, rfl, fo, us, rfl, .inl ⟨SqL.of hfo4, fun t ht => ?_⟩⟩
    have h5 : (k % 6).toNat ≤ 5 := by omega
    have h5' : (k % 6).toNat * 1300 ≤ 5 * 1300 := Nat.mul_le_mul_right _ h5
    exact q t fs _ ((D4.new ht).le (by omega)) (K4.new ht) (.tup upd_same (IA.mono (same_new ht _).tups)) (by omega) hnd hok
end
end Nf


set_option Elab.async false
set_option linter.all false
set_option maxRecDepth 100000
namespace Nf
open PySem L2
section
variable {P : Program} {w : World} {K : PySem.W.Frag} {mg : Str → Option Value} {base : Heap} {f a1 a2 a3 a4 a5 a6 a7 : Addr} {fd d1 d2 d3 d4 d5 d6 d7 : FuncData}
/-! ### the law -/
abbrev s_law : Stmt := top 14
abbrev N_law : List Str := ["_law_script", "_law_deck_here", "_law_some", "_law_turn", "_law_saying", "_law_fills_here"]
abbrev P_law : List Str := ["_law_script"]
theorem sc_law : FnScope N_law P_law (defScope s_law) := ⟨rfl, rfl, rfl, by decide +kernel, rfl, by decide +kernel, by decide +kernel⟩
def itDa (p : Say × Fl) : Da := .tup [p.1.da, flDa p.2]
theorem is_it {H : Hp} {v : V} {p : Say × Fl} (h : Is H v (itDa p)) : ∃ a x y, v = .ref a ∧ H a = some (.tup [x, y]) ∧ Is H x p.1.da ∧ Is H y (flDa p.2) := by
  cases h with
  | @tup a xs _ h1 h2 =>
    cases h2 with
    | cons p1 q1 =>
      cases q1 with
      | cons p2 q2 =>
        cases q2
        exact ⟨a, _, _, rfl, h1, p1, p2⟩
def ItOk (p : Say × Fl) : Prop := Say.ok (fun _ => True) 5 p.1 ∧ p.2.length ≤ 5 ∧ (p.2.map Prod.fst).Nodup ∧ ∀ z ∈ p.2, Say.ok (fun _ => True) 3 z.2
def spLaw (K : PySem.W.Frag) : Sp := fun vs H Q _ => ∃ (a : Addr) (ns : List Int), vs = [.ref a] ∧ SqL K H a (ns.map V.int) ∧ ns.length ≤ 63 ∧ ∀ H', Q (.bl true) H'
theorem ok_law (T : Bt mg) (C_law : Cal K mg "law" s_law P_law f fd) (C_deck : Cal K mg "_law_deck" s_deck P_deck a1 d1) (G_deck : FnOk P w K mg base CX0 1 a1 d1 P_deck (spDeck K))
    (C_next : Cal K mg "_law_next" s_next P_next a2 d2) (G_next : FnOk P w K mg base CX0 1 a2 d2 P_next spNext)
    (C_any : Cal K mg "_law_any" s_any P_any a3 d3) (G_any : FnOk P w K mg base CX0 (5 + 3) a3 d3 P_any (spAny 5))
    (C_fills : Cal K mg "_law_fills" s_fills P_fills a4 d4) (G_fills : FnOk P w K mg base CX0 7 a4 d4 P_fills spFills)
    (C_same : Cal K mg "_law_same" s_same P_same a5 d5) (G_same : FnOk P w K mg base CX0 18 a5 d5 P_same (spSame 18))
    (C_filled : Cal K mg "filled" s_filled P_filled a6 d6) (G_filled : FnOk P w K mg base CX0 (5 + 3) a6 d6 P_filled (spFilled 5))
    (C_put_in : Cal K mg "_law_put_in" s_put_in P_put_in a7 d7) (G_put_in : FnOk P w K mg base CX0 (5 + 1) a7 d7 P_put_in (spPut 5)) : FnOk P w K mg base CX0 19 f fd P_law (spLaw K) := by
  refine C_law.F.ok sc_law (fun vs H Q E h => ?_) (fun cdv A outer s H vs Q E hr h => ?_)
  · obtain ⟨a, ns, rfl, _⟩ := h
    rfl
  obtain ⟨a, ns, rfl, hS, h63, q⟩ := h
  refine ⟨_, PSs.nox (pss_cons (ps_set (i := 1) sc_law.nd rfl (Or.inl rfl) (pe_call G_deck (hr.mono (by omega)) (by rfl) C_deck.m C_deck.F.kp C_deck.b .nil pass0 (pa_cons (pv 0) pa_nil)))
    (pss_cons (ps_set (i := 2) sc_law.nd rfl (Or.inl rfl) (pe_lst pa_nil))
    (pss_cons (ps_for PassesOwn.never (by rfl) (pi_range1 (by rfl) T.t_range (pa_cons pe_int pa_nil)) (pg_name (i := 3) sc_law.nd rfl (Or.inl rfl)) (pss_cons (ps_set (i := 4) sc_law.nd rfl (Or.inl rfl) (pe_call G_any (hr.mono (by omega)) (by rfl) C_any.m C_any.F.kp C_any.b .nil pass0 (pa_cons (pv 1) (pa_cons (pe_lst (pa_cons pe_str (pa_cons pe_str (pa_cons pe_str (pa_cons pe_str (pa_cons pe_str (pa_cons pe_str (pa_cons pe_str pa_nil)))))))) (pa_cons (pe_op op_add pe_int (pe_op op_mod (pe_call G_next (hr.mono (by omega)) (by rfl) C_next.m C_next.F.kp C_next.b .nil pass0 (pa_cons (pv 1) pa_nil)) pe_int)) pa_nil)))))
    (pss_one (ps_expr (pe_bm PySem.F.plainAttrs_list PySem.F.slot_list_append PySem.F.type_list_append mt_append (pv 2) (pa_cons (pe_tup (pa_cons (pv 4) (pa_cons (pe_call G_fills (hr.mono (by omega)) (by rfl) C_fills.m C_fills.F.kp C_fills.b .nil pass0 (pa_cons (pv 1) pa_nil)) pa_nil))) pa_nil))))))
    (pss_cons (ps_for PassesOwn.never (by rfl) (pi_list (pe_op op_cat (pv 2) (pe_slice sl_list (pv 2) po_none (po_some pe_int)))) (pg_tup (by rfl) (pgs_cons (pg_name (i := 4) sc_law.nd rfl (Or.inl rfl)) (pgs_cons (pg_name (i := 5) sc_law.nd rfl (Or.inl rfl)) pgs_nil))) (pss_cons (ps_if (pt_not (pt_val (pe_call G_same (hr.mono (by omega)) (by rfl) C_same.m C_same.F.kp C_same.b .nil pass0 (pa_cons (pe_call G_filled (hr.mono (by omega)) (by rfl) C_filled.m C_filled.F.kp C_filled.b .nil pass0 (pa_cons (pv 4) (pa_cons (pv 5) pa_nil))) (pa_cons (pe_call G_put_in (hr.mono (by omega)) (by rfl) C_put_in.m C_put_in.F.kp C_put_in.b .nil pass0 (pa_cons (pv 4) (pa_cons (pv 5) pa_nil))) pa_nil))))) (pss_one (ps_ret pe_bl)) pss_nil)
    (pss_one (ps_if (pt_not (pt_val (pe_call G_same (hr.mono (by omega)) (by rfl) C_same.m C_same.F.kp C_same.b .nil pass0 (pa_cons (pe_call G_filled (hr.mono (by omega)) (by rfl) C_filled.m C_filled.F.kp C_filled.b .nil pass0 (pa_cons (pv 4) (pa_cons (pe_tup pa_nil) pa_nil))) (pa_cons (pv 4) pa_nil))))) (pss_one (ps_ret pe_bl)) pss_nil))))
    (pss_one (ps_ret pe_bl)))))), ?_⟩
  have c5 : cost 5 = 20480 := rfl
  refine ⟨_, rfl, a, ns, rfl, hS, h63, fun d g c H1 D1 S1 hd hg hc => ?_⟩
  refine ⟨by show 0 ≤ sizeLine; decide, fun so hso => ?_⟩
  have nso := D1.not_new hso
  have D2 := D1.new hso (o := .lst [])
  have e2 : upd H1 so (.lst []) so = some (.lst []) := upd_same
  generalize upd H1 so (.lst []) = H2 at D2 e2
  refine ⟨8, rfl, by decide, by decide, ?_⟩
  refine for_range (lo := 0) (n := 8) (fun i σ H' => ∃ (us : List V) (its : List (Say × Fl)) (y1 y2 y3 : Option V), σ = [some (.ref a), some (.ref d), some (.ref so), y1, y2, y3] ∧ Deck H' d g c (i * 30000) ∧
    H' so = some (.lst us) ∧ IsA H' us (its.map itDa) ∧ its.length = i ∧ ∀ p ∈ its, ItOk p) ?_ ?_ ?_
  · exact ⟨[], [], none, none, none, rfl, by simpa using D2, e2, .nil, rfl, by simp⟩
  · rintro i σ H4 hi ⟨us, its, y1, y2, y3, rfl, D4, hso4, IA, hil, hok⟩
    have hi5' : i * 30000 ≤ 8 * 30000 := Nat.mul_le_mul_right _ (by omega)
    refine ⟨_, rfl, by show 7 ≤ sizeLine; decide, fun hs hhs => ?_⟩
    have nhs := D4.not_new hhs
    have D6 := D4.new hhs (o := .lst [.str "name", .str "made", .str "name", .str "call", .str "either", .str "same", .str "skip"])
    have K6 : Keep [d, g, c] H4 (upd H4 hs (.lst [.str "name", .str "made", .str "name", .str "call", .str "either", .str "same", .str "skip"])) := (Keep.refl _ _).new hhs
    have e6 : upd H4 hs (.lst [.str "name", .str "made", .str "name", .str "call", .str "either", .str "same", .str "skip"]) hs = some (.lst ((["name", "made", "name", "call", "either", "same", "skip"] : List Str).map V.str)) := upd_same
    generalize upd H4 hs (.lst [.str "name", .str "made", .str "name", .str "call", .str "either", .str "same", .str "skip"]) = H6 at D6 K6 e6
    refine ⟨_, rfl, d, g, c, _, rfl, D6, by omega, fun k2 H7 hk20 hk21 D7 K7 => ?_⟩
    have hr3 := mod_range (k := k2) (m := 5) (by decide)
    refine ⟨_, _, rfl, rfl, by show (0 : Int) < 5; decide, _, _, rfl, rfl, d, g, c, hs, _, (["name", "made", "name", "call", "either", "same", "skip"] : List Str), 1 + k2 % 5, rfl, D7, K7.at e6 nhs, nhs, by decide, fun x hx => ?_, by omega, by omega, by omega, fun v s H8 D8 K8 I8 o8 => ?_⟩
    · unfold heads6
      simp only [List.mem_cons, List.not_mem_nil, or_false] at hx ⊢
      rcases hx with h | h | h | h | h | h | h <;> simp [h]
    have K48 := (K6.trans K7).trans K8
    have o8' : Say.ok (fun _ => True) 5 s := Say.ok_mono (by omega) (Say.ok_imp (fun _ _ => True.intro) o8)
    refine ⟨_, rfl, .inl ⟨rfl, _, SqL.of (K48.at hso4 nso)⟩, _, rfl, _, rfl, d, g, c, _, rfl, D8, by omega, fun t fs H9 D9 K9 I9 hfl hnd hfo => ?_⟩
    have K49 := K48.trans K9
    refine ⟨by show 2 ≤ sizeLine; decide, fun t2 ht2 => ?_⟩
    have S10 := same_new ht2 (.tup [v, .ref t])
    have hso9 := S10 _ _ (K49.at hso4 nso)
    have lus : us.length = i := by rw [IA.len, List.length_map, hil]
    refine ⟨so, us, _, rfl, rfl, hso9, small1000 (by omega), ?_⟩
    have N : TupS (upd H9 t2 (.tup [v, .ref t])) (upd (upd H9 t2 (.tup [v, .ref t])) so (.lst (us ++ [.ref t2]))) := (TupS.refl _).mutL hso9
    refine ⟨us ++ [.ref t2], its ++ [(s, fs)], _, _, _, rfl, ((D9.new ht2).put nso).le (by omega), upd_same, ?_, by rw [List.length_append, hil]; rfl, ?_⟩
    · rw [List.map_append]
      refine (((IA.mono (K49.tups D4.noTup)).mono S10.tups).mono N).app (.cons ?_ .nil)
      exact .tup (N _ _ upd_same) (.cons (((I8.mono (K9.tups D8.noTup)).mono S10.tups).mono N) (.cons ((I9.mono S10.tups).mono N) .nil))
    · intro p hp
      rcases List.mem_append.mp hp with h | h
      · exact hok p h
      · simp only [List.mem_singleton] at h
        rw [h]; exact ⟨o8', hfl, hnd, hfo⟩
  · rintro σ H4 ⟨us, its, y1, y2, y3, rfl, D4, hso4, IA, hil, hok⟩
    have lus : us.length = 8 := by rw [IA.len, List.length_map, hil]
    refine ⟨_, rfl, _, rfl, _, rfl, so, us, rfl, SqL.of hso4, fun p hp => ?_⟩
    have ecut : cutV us none (some 1) = us.take 1 := by
      show (us.drop 0).take (HT.sIx us.length us.length (some ((1 : Nat) : Int)) - 0) = us.take 1
      rw [HT.sIx_nat, lus]; rfl
    rw [ecut]
    have S5 := same_new hp (.lst (us.take 1))
    refine ⟨so, p, us, us.take 1, rfl, rfl, S5 _ _ hso4, upd_same, ?_, fun l hl => ?_⟩
    · exact sz5 (by rw [List.length_take]; omega)
    have S6 := S5.new hl (o := .lst (us ++ us.take 1))
    have IA6 : IsA (upd (upd H4 p (.lst (us.take 1))) l (.lst (us ++ us.take 1))) (us ++ us.take 1) ((its ++ its.take 1).map itDa) := by
      rw [List.map_append, List.map_take]
      exact (IA.mono S6.tups).app ((IA.mono S6.tups).take 1)
    have hl6 : upd (upd H4 p (.lst (us.take 1))) l (.lst (us ++ us.take 1)) l = some (.lst (us ++ us.take 1)) := upd_same
    have hok6 : ∀ z ∈ its ++ its.take 1, ItOk z := fun z hz => by
      rcases List.mem_append.mp hz with h | h
      · exact hok z h
      · exact hok z (List.mem_of_mem_take h)
    generalize upd (upd H4 p (.lst (us.take 1))) l (.lst (us ++ us.take 1)) = H6 at IA6 hl6 S6
    generalize us ++ us.take 1 = ws at IA6 hl6
    generalize its ++ its.take 1 = jts at IA6 hok6
    refine ⟨l, rfl, ⟨_, SqL.of hl6⟩, ?_⟩
    refine for_it (walk_list (xs := ws)) (fun i σ H' => Same H6 H' ∧ ∃ y1 y2 y3, σ = [some (.ref a), some (.ref d), some (.ref so), y1, y2, y3]) ?_ ?_ ?_ ?_
    · exact ⟨Same.refl _, _, _, _, rfl⟩
    · rintro i σ H7 _ ⟨S7, _⟩
      exact SqL.of (S7 _ _ hl6)
    · rintro i x σ H7 H8 hi ⟨S7, z1, z2, z3, rfl⟩ ⟨rfl, hx⟩
      obtain ⟨pr, hpr, hxp⟩ := IA6.map_get hx
      obtain ⟨o1, o2, o3, o4⟩ := hok6 pr (List.mem_of_getElem? hpr)
      obtain ⟨b, x1, x2, rfl, hb, i1, i2⟩ := is_it (hxp.mono S7.tups)
      refine ⟨b, _, rfl, SqT.of hb, rfl, _, _, rfl, _, _, rfl, rfl, ?_⟩
      have o5 : Say.ok (fun _ => True) (5 + 3) (pr.1.fill pr.2) := Say.fill_ok o4 o1
      have dp := Say.dep o5
      refine ⟨_, rfl, _, rfl, x1, x2, pr.1, pr.2, rfl, i1, o1, i2, by omega, o3, fun v1 H9 S9 I9 => ?_⟩
      refine ⟨_, rfl, _, rfl, x1, x2, pr.1, pr.2, rfl, i1.mono S9.tups, o1, i2.mono S9.tups, fun v2 H10 S10 I10 => ?_⟩
      refine ⟨v1, v2, _, _, rfl, I9.mono S10.tups, I10, dp, fun H11 S11 => ?_⟩
      rw [Da.eq_refl]
      refine ⟨_, rfl, ?_⟩
      refine iteF ?_
      have S711 := (S9.trans S10).trans S11
      refine ⟨_, rfl, by show 0 ≤ sizeLine; decide, fun t ht => ?_⟩
      have S12 := S711.new ht (o := .tup [])
      refine ⟨x1, .ref t, pr.1, [], rfl, i1.mono S12.tups, o1, .tup upd_same .nil, by decide, List.nodup_nil, fun v3 H13 S13 I13 => ?_⟩
      rw [Say.fill_nil] at I13
      have S713 := S12.trans S13
      refine ⟨_, rfl, v3, x1, _, _, rfl, I13, i1.mono S713.tups, Da.dep_mono (by decide) (Say.dep o1), fun H14 S14 => ?_⟩
      rw [Da.eq_refl]
      refine ⟨_, rfl, ?_⟩
      refine iteF ?_
      exact ⟨S7.trans (S713.trans S14), _, _, _, rfl⟩
    · rintro σ H7 ⟨S7, z1, z2, z3, rfl⟩
      exact q H7
end
end Nf


set_option Elab.async false
set_option linter.all false
set_option maxRecDepth 100000
set_option maxHeartbeats 0
namespace Nf
open PySem L2
def dd_parts_of : He.DefD := ⟨("parts_of", none), "parts_of", "parts_of", defArgs s_parts_of, defBody s_parts_of, defScope s_parts_of, [], []⟩
def dd_with_parts : He.DefD := ⟨("with_parts", none), "with_parts", "with_parts", defArgs s_with_parts, defBody s_with_parts, defScope s_with_parts, [], []⟩
def dd_filled : He.DefD := ⟨("filled", none), "filled", "filled", defArgs s_filled, defBody s_filled, defScope s_filled, [], []⟩
def dd_replaced : He.DefD := ⟨("replaced", none), "replaced", "replaced", defArgs s_replaced, defBody s_replaced, defScope s_replaced, [], []⟩
def dd_deck : He.DefD := ⟨("_law_deck", none), "_law_deck", "_law_deck", defArgs s_deck, defBody s_deck, defScope s_deck, [], []⟩
def dd_next : He.DefD := ⟨("_law_next", none), "_law_next", "_law_next", defArgs s_next, defBody s_next, defScope s_next, [], []⟩
def dd_same : He.DefD := ⟨("_law_same", none), "_law_same", "_law_same", defArgs s_same, defBody s_same, defScope s_same, [], []⟩
def dd_letters : He.DefD := ⟨("_law_letters", none), "_law_letters", "_law_letters", defArgs s_letters, defBody s_letters, defScope s_letters, [], []⟩
def dd_name : He.DefD := ⟨("_law_name", none), "_law_name", "_law_name", defArgs s_name, defBody s_name, defScope s_name, [], []⟩
def dd_any : He.DefD := ⟨("_law_any", none), "_law_any", "_law_any", defArgs s_any, defBody s_any, defScope s_any, [], []⟩
def dd_put_in : He.DefD := ⟨("_law_put_in", none), "_law_put_in", "_law_put_in", defArgs s_put_in, defBody s_put_in, defScope s_put_in, [], []⟩
def dd_fills : He.DefD := ⟨("_law_fills", none), "_law_fills", "_law_fills", defArgs s_fills, defBody s_fills, defScope s_fills, [], []⟩
def dd_law : He.DefD := ⟨("law", none), "law", "law", defArgs s_law, defBody s_law, defScope s_law, [], []⟩
def fns : List He.DefD := [dd_parts_of, dd_with_parts, dd_filled, dd_replaced, dd_deck, dd_next, dd_same, dd_letters, dd_name, dd_any, dd_put_in, dd_fills, dd_law]
def fas : List He.Fa := [.glo "parts_of", .glo "with_parts", .glo "filled", .glo "replaced", .glo "_law_deck", .glo "_law_next", .glo "_law_same", .glo "_law_letters", .glo "_law_name", .glo "_law_any", .glo "_law_put_in", .glo "_law_fills", .glo "law", .free "len", .free "abs", .free "range", .free "zip", .free "isinstance", .free "all", .free "tuple", .free "str", .free "int", .free "bool", .free "enumerate", .free "list", .free "dict", .free "any"]
def loose : List PySem.Str := ["parts_of", "with_parts", "filled", "replaced", "_law_deck", "_law_next", "_law_same", "_law_letters", "_law_name", "_law_any", "_law_put_in", "_law_fills"]
abbrev R : PySem.W.OpenRow := PySem.W.OpenLaw.row PySem.Challenge.rw_needfill_k03_filled
abbrev hk : PySem.W.Hook := He.hookD 4 fas fns
def ob (s : PySem.W.SharedT) : He.AlD := He.obsDG 4 fas fns (HandSHeadRun.getT s)
theorem ob_eq (s : PySem.W.SharedT) : ob s = hk.obs s.abs := He.obsDG_eq (HandSHeadRun.getT_eq s)
theorem run (w : World) : HandSHeadRun.RunEq R (PySem.W.view R.prog [14]) hk ob 3000 loose w := by
  intro os
  kernel_rfl
theorem facts {P : Program} {w : World} {K : PySem.W.Frag} {h : Heap} {mg : Str → Option Value} {f : Addr} (X : K.In h) (G : h.Ns mainGlobals mg) (hfa : mg ("law" : Str) = some (.ref f)) (c : He.SaysD fas fns K) :
    ∃ fd : FuncData, (∀ (s : Shared) (v : Value), BindsTo s fd ⟨[v], []⟩ [("_law_script", v)]) ∧ ∀ base : Heap, K.In base → base.Ns mainGlobals mg → FnOk P w K mg base CX0 19 f fd ["_law_script"] (spLaw K) := by
  obtain ⟨e_parts_of, F0_parts_of⟩ := c.def_ 0 (d := dd_parts_of) rfl
  have C_parts_of : Cal K mg "parts_of" s_parts_of P_parts_of _ e_parts_of := ⟨F0_parts_of, He.glo_ok X G (c.fact 0 (f := .glo "parts_of") rfl), FunD.bindsN (ps := P_parts_of) F0_parts_of fun _ _ _ _ _ _ us hl => match us, hl with | [_], _ => rfl⟩
  obtain ⟨e_with_parts, F0_with_parts⟩ := c.def_ 1 (d := dd_with_parts) rfl
  have C_with_parts : Cal K mg "with_parts" s_with_parts P_with_parts _ e_with_parts := ⟨F0_with_parts, He.glo_ok X G (c.fact 1 (f := .glo "with_parts") rfl), FunD.bindsN (ps := P_with_parts) F0_with_parts fun _ _ _ _ _ _ us hl => match us, hl with | [_, _], _ => rfl⟩
  obtain ⟨e_filled, F0_filled⟩ := c.def_ 2 (d := dd_filled) rfl
  have C_filled : Cal K mg "filled" s_filled P_filled _ e_filled := ⟨F0_filled, He.glo_ok X G (c.fact 2 (f := .glo "filled") rfl), FunD.bindsN (ps := P_filled) F0_filled fun _ _ _ _ _ _ us hl => match us, hl with | [_, _], _ => rfl⟩
  obtain ⟨e_replaced, F0_replaced⟩ := c.def_ 3 (d := dd_replaced) rfl
  have C_replaced : Cal K mg "replaced" s_replaced P_replaced _ e_replaced := ⟨F0_replaced, He.glo_ok X G (c.fact 3 (f := .glo "replaced") rfl), FunD.bindsN (ps := P_replaced) F0_replaced fun _ _ _ _ _ _ us hl => match us, hl with | [_, _], _ => rfl⟩
  obtain ⟨e_deck, F0_deck⟩ := c.def_ 4 (d := dd_deck) rfl
  have C_deck : Cal K mg "_law_deck" s_deck P_deck _ e_deck := ⟨F0_deck, He.glo_ok X G (c.fact 4 (f := .glo "_law_deck") rfl), FunD.bindsN (ps := P_deck) F0_deck fun _ _ _ _ _ _ us hl => match us, hl with | [_], _ => rfl⟩
  obtain ⟨e_next, F0_next⟩ := c.def_ 5 (d := dd_next) rfl
  have C_next : Cal K mg "_law_next" s_next P_next _ e_next := ⟨F0_next, He.glo_ok X G (c.fact 5 (f := .glo "_law_next") rfl), FunD.bindsN (ps := P_next) F0_next fun _ _ _ _ _ _ us hl => match us, hl with | [_], _ => rfl⟩
  obtain ⟨e_same, F0_same⟩ := c.def_ 6 (d := dd_same) rfl
  have C_same : Cal K mg "_law_same" s_same P_same _ e_same := ⟨F0_same, He.glo_ok X G (c.fact 6 (f := .glo "_law_same") rfl), FunD.bindsN (ps := P_same) F0_same fun _ _ _ _ _ _ us hl => match us, hl with | [_, _], _ => rfl⟩
  obtain ⟨e_letters, F0_letters⟩ := c.def_ 7 (d := dd_letters) rfl
  have C_letters : Cal K mg "_law_letters" s_letters P_letters _ e_letters := ⟨F0_letters, He.glo_ok X G (c.fact 7 (f := .glo "_law_letters") rfl), FunD.bindsN (ps := P_letters) F0_letters fun _ _ _ _ _ _ us hl => match us, hl with | [_, _], _ => rfl⟩
  obtain ⟨e_name, F0_name⟩ := c.def_ 8 (d := dd_name) rfl
  have C_name : Cal K mg "_law_name" s_name P_name _ e_name := ⟨F0_name, He.glo_ok X G (c.fact 8 (f := .glo "_law_name") rfl), FunD.bindsN (ps := P_name) F0_name fun _ _ _ _ _ _ us hl => match us, hl with | [_], _ => rfl⟩
  obtain ⟨e_any, F0_any⟩ := c.def_ 9 (d := dd_any) rfl
  have C_any : Cal K mg "_law_any" s_any P_any _ e_any := ⟨F0_any, He.glo_ok X G (c.fact 9 (f := .glo "_law_any") rfl), FunD.bindsN (ps := P_any) F0_any fun _ _ _ _ _ _ us hl => match us, hl with | [_, _, _], _ => rfl⟩
  obtain ⟨e_put_in, F0_put_in⟩ := c.def_ 10 (d := dd_put_in) rfl
  have C_put_in : Cal K mg "_law_put_in" s_put_in P_put_in _ e_put_in := ⟨F0_put_in, He.glo_ok X G (c.fact 10 (f := .glo "_law_put_in") rfl), FunD.bindsN (ps := P_put_in) F0_put_in fun _ _ _ _ _ _ us hl => match us, hl with | [_, _], _ => rfl⟩
  obtain ⟨e_fills, F0_fills⟩ := c.def_ 11 (d := dd_fills) rfl
  have C_fills : Cal K mg "_law_fills" s_fills P_fills _ e_fills := ⟨F0_fills, He.glo_ok X G (c.fact 11 (f := .glo "_law_fills") rfl), FunD.bindsN (ps := P_fills) F0_fills fun _ _ _ _ _ _ us hl => match us, hl with | [_], _ => rfl⟩
  obtain ⟨e_law, F0_law⟩ := c.def_ 12 (d := dd_law) rfl
  have C_law : Cal K mg "law" s_law P_law _ e_law := ⟨F0_law, He.glo_ok X G (c.fact 12 (f := .glo "law") rfl), FunD.bindsN (ps := P_law) F0_law fun _ _ _ _ _ _ us hl => match us, hl with | [_], _ => rfl⟩
  have T : Bt mg := ⟨He.free_ok X G (c.fact 13 (f := .free "len") rfl), He.free_ok X G (c.fact 14 (f := .free "abs") rfl), He.free_ok X G (c.fact 15 (f := .free "range") rfl), He.free_ok X G (c.fact 16 (f := .free "zip") rfl), He.free_ok X G (c.fact 17 (f := .free "isinstance") rfl), He.free_ok X G (c.fact 18 (f := .free "all") rfl), He.free_ok X G (c.fact 19 (f := .free "tuple") rfl), He.free_ok X G (c.fact 20 (f := .free "str") rfl), He.free_ok X G (c.fact 21 (f := .free "int") rfl), He.free_ok X G (c.fact 22 (f := .free "bool") rfl), He.free_ok X G (c.fact 23 (f := .free "enumerate") rfl), He.free_ok X G (c.fact 24 (f := .free "list") rfl), He.free_ok X G (c.fact 25 (f := .free "dict") rfl), He.free_ok X G (c.fact 26 (f := .free "any") rfl)⟩
  have e := hfa.symm.trans C_law.m
  cases e
  have b := FunD.bindsA (ps := ["_law_script"]) F0_law fun _ _ _ _ _ _ us hl => match us, hl with | [_], _ => rfl
  refine ⟨e_law, fun s v => b s [v] rfl, fun base _ _ => ?_⟩
  have G_next := ok_next (P := P) (w := w) (base := base) T C_next
  have G_letters := ok_letters T C_letters C_next G_next
  have G_name := ok_name T C_name C_next G_next C_letters G_letters
  have G_any := ok_any T C_any C_next G_next C_name G_name
  have G_parts := ok_parts (P := P) (w := w) (base := base) T C_parts_of
  have G_with := ok_with (P := P) (w := w) (base := base) T C_with_parts
  have G_repl := ok_repl T C_replaced C_parts_of G_parts C_with_parts G_with
  exact ok_law T C_law C_deck (ok_deck T C_deck) C_next G_next C_any (G_any 5) C_fills (ok_fills T C_fills C_next G_next C_name G_name C_any (G_any 3)) C_same (ok_same T C_same 18)
    C_filled (ok_filled T C_filled C_replaced (G_repl 5)) C_put_in (ok_put T C_put_in 5)
end Nf
open PySem PySem.W PySem.Calls PyProof.Rows
set_option maxRecDepth 100000 in
set_option maxHeartbeats 0 in
theorem PySem.Challenge.cw_needfill_k03_filled_holds : PySem.Challenge.rw_needfill_k03_filled.Holds := by
  w_on; o_law
  refine HandSHeadRun.head_any (r := OpenLaw.row PySem.Challenge.rw_needfill_k03_filled) (q := view (OpenLaw.row PySem.Challenge.rw_needfill_k03_filled).prog [14]) (H := Nf.hk) (ob := Nf.ob) (M := 3000) (loose := Nf.loose) (d := HandSHeadRun.topDef (OpenLaw.row PySem.Challenge.rw_needfill_k03_filled).prog 14) (kwd := []) Nf.ob_eq
    (by kernel_rfl) (fun s => by kernel_rfl) Nf.run (by kernel_rfl) (by kernel_rfl) (by kernel_rfl) (by rfl) (by first | assumption | decide +kernel) (by decide +kernel) ⟨rfl, rfl, rfl, rfl, rfl, by decide +kernel⟩ ?hw ?hc
  case hw => w_witness2
  case hc =>
    refine L2.walk_ofE (l := PySem.Challenge.rw_needfill_k03_filled) (n := 63) (k := 19) (x := "_law_script") (CX := L2.CX0) rfl (by decide) (by kernel_rfl) ⟨rfl, by decide, by decide⟩ ?F (fun _ _ _ _ z => z)
    intro w mg fa h Y G hmg0
    obtain ⟨K, KX, c⟩ := Y
    have hmg : mg ("law" : PySem.Str) = some (.ref fa) := by
      have e : (HandSHeadRun.topDef (OpenLaw.row PySem.Challenge.rw_needfill_k03_filled).prog 14).name = ("law" : PySem.Str) := by kernel_rfl
      rw [← e]
      exact hmg0
    obtain ⟨fd, hb, hF⟩ := Nf.facts (P := (PySem.Challenge.rw_needfill_k03_filled).prog) (w := w) KX G hmg c
    exact ⟨K, fd, Nf.spLaw K, KX, hb, fun H a ns hl _ hS => ⟨a, ns, rfl, hS, hl, fun _ => rfl⟩, hF⟩


