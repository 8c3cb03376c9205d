import PyProof.Rows.All
import Wide.All
import OpenK.AllK
import Wide.FinOn
import HandS.ForMost
import HandS.Wide
import HandS.IsInst
import HandS.Zip
import HandS.Walk
import HandS.Conv
import HandS.Star
import HandS.DictComp
import HandS.Style
import HandS.Flow
import HandS.TupAny
import HandS.ListItems
import HandS.Defaults
import KE.KStateDown
import Lean
import HandS.More
import HandS.WordsExc
import HandS.Head0
import HandS.Head1
import HandS.Head2
import HandS.HeadEnd
import HandS.HeadHook1
import HandS.HeadHook2
import KE.GoesEnum
import KE.KDictZip
import KE.KxIndex
import KE.KDictPairs
import PySem.Challenge.RW_needfill_k05_whole_fitted_and_filled
set_option Elab.async false
set_option linter.all false
set_option maxRecDepth 100000
namespace Nf
open PySem L2

/-! ### heaps: all that was tracked stays, but for some addresses -/
def Keep (D : List Addr) (H H' : Hp) : Prop := ∀ a o, H a = some o → a ∉ D → H' a = some o
theorem Keep.refl (D : List Addr) (H : Hp) : Keep D H H := fun _ _ h _ => h
theorem Keep.trans {D : List Addr} {H H1 H2 : Hp} (a : Keep D H H1) (b : Keep D H1 H2) : Keep D H H2 := fun c o h n => b c o (a c o h n) n
theorem Keep.of_same {D : List Addr} {H H' : Hp} (s : Same H H') : Keep D H H' := fun a o h _ => s a o h
theorem Keep.new {D : List Addr} {H H' : Hp} {p : Addr} {o : HO} (k : Keep D H H') (h : H' p = none) : Keep D H (upd H' p o) := fun a u e n => by
  rw [upd_ne (ne_of_none (k a u e n) h)]; exact k a u e n
theorem Keep.mut {D : List Addr} {H H' : Hp} {p : Addr} {o : HO} (k : Keep D H H') (h : p ∈ D) : Keep D H (upd H' p o) := fun a u e n => by
  have : a ≠ p := fun z => n (z ▸ h)
  rw [upd_ne this]; exact k a u e n
/-- an object that H does not know may change -/
theorem Keep.mutN {D : List Addr} {H H' : Hp} {p : Addr} {o : HO} (k : Keep D H H') (h : H p = none) : Keep D H (upd H' p o) := fun a u e n => by
  rw [upd_ne (ne_of_none e h)]; exact k a u e n
theorem Keep.weak {D E : List Addr} {H H' : Hp} (k : Keep D H H') (s : ∀ a, a ∈ D → a ∈ E) : Keep E H H' := fun a o h n => k a o h fun z => n (s a z)
theorem Keep.same {H H' : Hp} (k : Keep [] H H') : Same H H' := fun a o h => k a o h (by simp)
theorem Keep.free' {D : List Addr} {H H' : Hp} (e : Keep D H H') {l : Addr} (h : H' l = Option.none) (n : l ∉ D) : H l = Option.none := by
  cases q : H l with
  | none => rfl
  | some o =>
    rw [e l o q n] at h
    cases h
theorem same_new {H : Hp} {p : Addr} (h : H p = none) (o : HO) : Same H (upd H p o) := fun b u q => by rw [upd_ne (ne_of_none q h)]; exact q
theorem _root_.L2.Same.new {H H' : Hp} {p : Addr} {o : HO} (k : Same H H') (h : H' p = none) : Same H (upd H' p o) := k.trans (same_new h o)
theorem _root_.L2.Same.mutN {H H' : Hp} {p : Addr} {o : HO} (k : Same H H') (h : H p = none) : Same H (upd H' p o) := fun a u e => by
  rw [upd_ne (ne_of_none e h)]; exact k a u e
theorem _root_.L2.Same.keepN {H H' : Hp} (k : Same H H') : Keep [] H H' := Keep.of_same k

/-- all tuples stay -/
def TupS (H H' : Hp) : Prop := ∀ a xs, H a = some (.tup xs) → H' a = some (.tup xs)
theorem TupS.refl (H : Hp) : TupS H H := fun _ _ h => h
theorem TupS.trans {H H1 H2 : Hp} (a : TupS H H1) (b : TupS H1 H2) : TupS H H2 := fun c o h => b c o (a c o h)
theorem _root_.L2.Same.tups {H H' : Hp} (s : Same H H') : TupS H H' := fun a _ h => s a _ h
/-- no tuple stands at these places -/
def NoTup (D : List Addr) (H : Hp) : Prop := ∀ a ∈ D, ∀ xs, H a ≠ some (.tup xs)
theorem Keep.tups {D : List Addr} {H H' : Hp} (k : Keep D H H') (n : NoTup D H) : TupS H H' := fun a xs h => k a _ h fun m => n a m xs h
theorem TupS.new {H H' : Hp} {p : Addr} {o : HO} (k : TupS H H') (h : H' p = none) : TupS H (upd H' p o) := fun a u e => by
  rw [upd_ne (ne_of_none (k a u e) h)]; exact k a u e
theorem TupS.mutL {H H' : Hp} {p : Addr} {o : HO} {ys : List V} (k : TupS H H') (h : H' p = some (.lst ys)) : TupS H (upd H' p o) := fun a u e => by
  have q := k a u e
  have : a ≠ p := fun z => by rw [z, h] at q; cases q
  rw [upd_ne this]; exact q

/-! ### data of texts, numbers, truths, None and tuples -/
inductive Da where
  | non | bl (b : Bool) | int (i : Int) | str (x : Str) | tup (ds : List Da)
mutual
inductive Is (H : Hp) : V → Da → Prop
  | non : Is H .non .non
  | bl (b : Bool) : Is H (.bl b) (.bl b)
  | int (i : Int) : Is H (.int i) (.int i)
  | str (x : Str) : Is H (.str x) (.str x)
  | tup {a : Addr} {xs : List V} {ds : List Da} : H a = some (.tup xs) → IsA H xs ds → Is H (.ref a) (.tup ds)
inductive IsA (H : Hp) : List V → List Da → Prop
  | nil : IsA H [] []
  | cons {v : V} {vs : List V} {d : Da} {ds : List Da} : Is H v d → IsA H vs ds → IsA H (v :: vs) (d :: ds)
end
mutual
theorem Is.mono {H H' : Hp} (k : TupS H H') : ∀ {v : V} {d : Da}, Is H v d → Is H' v d
  | _, _, .non => .non
  | _, _, .bl b => .bl b
  | _, _, .int i => .int i
  | _, _, .str x => .str x
  | _, _, .tup h q => .tup (k _ _ h) (IsA.mono k q)
theorem IsA.mono {H H' : Hp} (k : TupS H H') : ∀ {v : List V} {d : List Da}, IsA H v d → IsA H' v d
  | _, _, .nil => .nil
  | _, _, .cons h q => .cons (Is.mono k h) (IsA.mono k q)
end
theorem IsA.len {H : Hp} : ∀ {vs : List V} {ds : List Da}, IsA H vs ds → vs.length = ds.length
  | _, _, .nil => rfl
  | _, _, .cons _ q => congrArg (· + 1) (IsA.len q)
theorem IsA.get {H : Hp} : ∀ {vs : List V} {ds : List Da} {i : Nat} {d : Da}, IsA H vs ds → ds[i]? = some d → ∃ v, vs[i]? = some v ∧ Is H v d
  | _, _, _, _, .nil, e => by simp at e
  | _, _, 0, _, .cons h _, e => by simp at e; subst e; exact ⟨_, rfl, h⟩
  | _, _, i + 1, d, .cons _ q, e => by
    obtain ⟨v, a, b⟩ := IsA.get (i := i) (d := d) q (by simpa using e)
    exact ⟨v, by simpa using a, b⟩
theorem IsA.getV {H : Hp} : ∀ {vs : List V} {ds : List Da} {i : Nat} {v : V}, IsA H vs ds → vs[i]? = some v → ∃ d, ds[i]? = some d ∧ Is H v d
  | _, _, _, _, .nil, e => by simp at e
  | _, _, 0, _, .cons h _, e => by simp at e; subst e; exact ⟨_, rfl, h⟩
  | _, _, i + 1, d, .cons _ q, e => by
    obtain ⟨v, a, b⟩ := IsA.getV (i := i) q (by simpa using e)
    exact ⟨v, by simpa using a, b⟩
theorem IsA.app {H : Hp} : ∀ {vs ws : List V} {ds es : List Da}, IsA H vs ds → IsA H ws es → IsA H (vs ++ ws) (ds ++ es)
  | _, _, _, _, .nil, s => s
  | _, _, _, _, .cons h q, s => .cons h (IsA.app q s)
theorem IsA.take {H : Hp} : ∀ {vs : List V} {ds : List Da} (n : Nat), IsA H vs ds → IsA H (vs.take n) (ds.take n)
  | _, _, 0, _ => .nil
  | _, _, _ + 1, .nil => .nil
  | _, _, n + 1, .cons h q => .cons h (IsA.take n q)
theorem IsA.drop {H : Hp} : ∀ {vs : List V} {ds : List Da} (n : Nat), IsA H vs ds → IsA H (vs.drop n) (ds.drop n)
  | _, _, 0, r => r
  | _, _, _ + 1, .nil => .nil
  | _, _, n + 1, .cons _ q => IsA.drop n q
/-- how deep, told by a bound -/
def Da.dep : Nat → Da → Prop
  | 0, _ => False
  | n + 1, .tup ds => ds.length ≤ 100000 ∧ ∀ d ∈ ds, Da.dep n d
  | _ + 1, _ => True
def Da.ty : Da → String
  | .non => "NoneType"
  | .bl _ => "bool"
  | .int _ => "int"
  | .str _ => "str"
  | .tup _ => "tuple"
theorem Is.ty {K : PySem.W.Frag} {H : Hp} {v : V} {d : Da} (h : Is H v d) : TyX K H v (.type d.ty) := by
  cases h with
  | non => exact .base .non
  | bl b => exact .base (.bl b)
  | int i => exact .base (.int i)
  | str x => exact .base (.str x)
  | tup h _ => exact .base (.tup h)
theorem walk_zipT {K : PySem.W.Frag} {a b : Addr} {xs ys : List V} {n : Nat} (hn : n = min xs.length ys.length) : Walk (RZ.ItzT K a b) n (fun H => SqT K H a xs ∧ SqT K H b ys) (YPair (fun i => xs[i]?) (fun i => ys[i]?)) := by
  subst hn
  refine ⟨fun i _ hi q => ?_, fun _ q => ⟨xs, ys, q.1, q.2, by omega⟩, fun i H v H' _ q y => ?_⟩
  · have h1 : i < xs.length := by omega
    have h2 : i < ys.length := by omega
    exact ⟨xs, ys, xs[i], ys[i], q.1, q.2, by simp [h1], by simp [h2]⟩
  · obtain ⟨T, x, z, h1, h2, h3, h4, h5⟩ := y
    exact ⟨T, x, z, h1, h2, h3, h4 xs q.1, h5 ys q.2⟩
theorem fn_never {P : Program} {w : World} {K : PySem.W.Frag} {mg : Str → Option Value} {base : Heap} {CX : CXT} {k : Nat} {f : Addr} {fd : FuncData} {ps : List Str} {sp : Sp} (no : ∀ vs H Q E, ¬ sp vs H Q E) : FnOk P w K mg base CX k f fd ps sp :=
  ⟨fun vs H Q E h => absurd h (no vs H Q E), fun _ _ _ H _ _ vs Q E _ _ _ _ h => absurd h (no vs H Q E)⟩
theorem yes_if {σ : L2.St} {H : Hp} {A B : Hp → Prop} (h : A H) : tYes σ H fun b H3 => if b = true then A H3 else B H3 := by
  show (if true = true then A H else B H)
  rw [if_pos rfl]
  exact h
theorem sz5 {n : Nat} (h : n ≤ 100000) : n ≤ sizeLine := Nat.le_trans h (by decide)
theorem sz5' {n : Nat} (h : n < 100000) : n < sizeLine := Nat.lt_of_lt_of_le h (by decide)
/-! alike -/
mutual
def Da.eq : Da → Da → Bool
  | .non, .non => true
  | .bl a, .bl b => a == b
  | .int i, .int j => decide (i = j)
  | .str x, .str y => decide (x = y)
  | .tup xs, .tup ys => Da.eqA xs ys
  | _, _ => false
def Da.eqA : List Da → List Da → Bool
  | [], [] => true
  | x :: xs, y :: ys => Da.eq x y && Da.eqA xs ys
  | _, _ => false
end
mutual
theorem Da.eq_refl : ∀ d : Da, Da.eq d d = true
  | .non => rfl
  | .bl b => by simp [Da.eq]
  | .int i => by simp [Da.eq]
  | .str x => by simp [Da.eq]
  | .tup ds => by simp only [Da.eq]; exact Da.eqA_refl ds
theorem Da.eqA_refl : ∀ d : List Da, Da.eqA d d = true
  | [] => rfl
  | d :: r => by simp only [Da.eqA, Da.eq_refl d, Da.eqA_refl r, Bool.and_self]
end
theorem Da.eqA_len : ∀ {xs ys : List Da}, xs.length ≠ ys.length → Da.eqA xs ys = false
  | [], [], h => absurd rfl h
  | [], _ :: _, _ => rfl
  | _ :: _, [], _ => rfl
  | x :: xs, y :: ys, h => by
    have := Da.eqA_len (xs := xs) (ys := ys) (fun e => h (by simp [e]))
    simp [Da.eqA, this]
theorem Da.eqA_zip : ∀ {xs ys : List Da}, xs.length = ys.length → Da.eqA xs ys = ((xs.zip ys).map fun p => Da.eq p.1 p.2).all id
  | [], [], _ => rfl
  | x :: xs, y :: ys, h => by
    have := Da.eqA_zip (xs := xs) (ys := ys) (by simpa using h)
    simp [Da.eqA, this]

/-! ### the deck -/
abbrev MM : Int := 2147483629
structure Deck (H : Hp) (d g c : Addr) (n : Nat) : Prop where
  ne1 : d ≠ g
  ne2 : d ≠ c
  ne3 : g ≠ c
  hd : ∃ k : Nat, H d = some (.lst [.ref g, .ref c, .int k]) ∧ k ≤ n
  hg : ∃ ds : List Int, H g = some (.lst (ds.map V.int)) ∧ ∀ x ∈ ds, 0 ≤ x ∧ x < MM
  hc : ∃ cs : List Int, H c = some (.lst (cs.map V.int)) ∧ 0 < cs.length ∧ cs.length ≤ 64 ∧ ∀ x ∈ cs, 0 ≤ x ∧ x < MM
theorem Deck.noTup {H : Hp} {d g c : Addr} {n : Nat} (D : Deck H d g c n) : NoTup [d, g, c] H := fun a m xs e => by
  obtain ⟨k, h1, _⟩ := D.hd
  obtain ⟨ds, h2, _⟩ := D.hg
  obtain ⟨cs, h3, _⟩ := D.hc
  simp only [List.mem_cons, List.not_mem_nil, or_false] at m
  rcases m with rfl | rfl | rfl
  · rw [h1] at e; cases e
  · rw [h2] at e; cases e
  · rw [h3] at e; cases e
theorem Deck.put {H : Hp} {d g c p : Addr} {n : Nat} {o : HO} (D : Deck H d g c n) (h : p ∉ [d, g, c]) : Deck (upd H p o) d g c n := by
  simp only [List.mem_cons, List.not_mem_nil, or_false, not_or] at h
  obtain ⟨a, b, e⟩ := h
  refine ⟨D.ne1, D.ne2, D.ne3, ?_, ?_, ?_⟩
  · rw [upd_ne (Ne.symm a)]; exact D.hd
  · rw [upd_ne (Ne.symm b)]; exact D.hg
  · rw [upd_ne (Ne.symm e)]; exact D.hc
theorem Deck.not_new {H : Hp} {d g c p : Addr} {n : Nat} (D : Deck H d g c n) (h : H p = none) : p ∉ [d, g, c] := by
  obtain ⟨k, h1, _⟩ := D.hd
  obtain ⟨ds, h2, _⟩ := D.hg
  obtain ⟨cs, h3, _⟩ := D.hc
  simp only [List.mem_cons, List.not_mem_nil, or_false, not_or]
  exact ⟨(ne_of_none h1 h).symm, (ne_of_none h2 h).symm, (ne_of_none h3 h).symm⟩
theorem Deck.new {H : Hp} {d g c p : Addr} {n : Nat} {o : HO} (D : Deck H d g c n) (h : H p = none) : Deck (upd H p o) d g c n := D.put (D.not_new h)
theorem Deck.le {H : Hp} {d g c : Addr} {n m : Nat} (D : Deck H d g c n) (h : n ≤ m) : Deck H d g c m := by
  obtain ⟨k, h1, h2⟩ := D.hd
  exact ⟨D.ne1, D.ne2, D.ne3, ⟨k, h1, by omega⟩, D.hg, D.hc⟩
theorem Deck.same {H H' : Hp} {d g c : Addr} {n : Nat} (D : Deck H d g c n) (s : Same H H') : Deck H' d g c n := by
  obtain ⟨k, h1, h2⟩ := D.hd
  obtain ⟨ds, h3, h4⟩ := D.hg
  obtain ⟨cs, h5, h6⟩ := D.hc
  exact ⟨D.ne1, D.ne2, D.ne3, ⟨k, s _ _ h1, h2⟩, ⟨ds, s _ _ h3, h4⟩, ⟨cs, s _ _ h5, h6⟩⟩
theorem mod_range {k m : Int} (h : 0 < m) : 0 ≤ k % m ∧ k % m < m := ⟨Int.emod_nonneg _ (by omega), Int.emod_lt_of_pos _ h⟩
theorem at_int {ns : List Int} {i : Int} (h0 : 0 ≤ i) (h1 : i < ns.length) : ∃ v, atI (ns.map V.int) i = some (.int v) ∧ v ∈ ns := by
  have hk : i.toNat < ns.length := by omega
  refine ⟨ns[i.toNat], at_of (j := i.toNat) (by omega) ?_, List.getElem_mem hk⟩
  rw [List.getElem?_map, List.getElem?_eq_getElem hk]; rfl
theorem at_nat {α : Type} {xs : List α} {f : α → V} {i : Int} (h0 : 0 ≤ i) (h1 : i < xs.length) : ∃ v, atI (xs.map f) i = some (f v) ∧ v ∈ xs ∧ xs[i.toNat]? = some v := by
  have hk : i.toNat < xs.length := by omega
  refine ⟨xs[i.toNat], at_of (j := i.toNat) (by omega) ?_, List.getElem_mem hk, List.getElem?_eq_getElem hk⟩
  rw [List.getElem?_map, List.getElem?_eq_getElem hk]; rfl
theorem atV {xs : List V} {i : Int} (h0 : 0 ≤ i) (h1 : i < xs.length) : ∃ v, atI xs i = some v ∧ xs[i.toNat]? = some v := by
  have hk : i.toNat < xs.length := by omega
  exact ⟨xs[i.toNat], at_of (j := i.toNat) (by omega) (List.getElem?_eq_getElem hk), List.getElem?_eq_getElem hk⟩
end Nf

set_option Elab.async false
set_option linter.all false
set_option maxRecDepth 100000
namespace Nf
open PySem L2
/-! ### sayings -/
inductive Say where
  | name (x : Str) | skip | app (c : Bool) (w : Str) (ps : List Say) | two (c : Bool) (a b : Say)
def hApp (c : Bool) : Str := if c then "call" else "made"
def hTwo (c : Bool) : Str := if c then "same" else "either"
mutual
def Say.da : Say → Da
  | .name x => .tup [.str "name", .str x]
  | .skip => .tup [.str "skip"]
  | .app c w ps => .tup [.str (hApp c), .str w, .tup (Say.das ps)]
  | .two c a b => .tup [.str (hTwo c), Say.da a, Say.da b]
def Say.das : List Say → List Da
  | [] => []
  | s :: r => Say.da s :: Say.das r
end
theorem Say.das_map : ∀ ps : List Say, Say.das ps = ps.map Say.da
  | [] => rfl
  | s :: r => by simp only [Say.das, List.map_cons, Say.das_map r]
def Say.head : Say → Str
  | .name _ => "name"
  | .skip => "skip"
  | .app c _ _ => hApp c
  | .two c _ _ => hTwo c
section
variable {H : Hp} {v : V}
theorem is_name {x : Str} (h : Is H v (Say.name x).da) : ∃ a, v = .ref a ∧ H a = some (.tup [.str "name", .str x]) := by
  simp only [Say.da] at h
  cases h with
  | @tup a xs _ h1 h2 =>
    cases h2 with
    | cons p q =>
      cases q with
      | cons p2 q2 =>
        cases q2; cases p; cases p2
        exact ⟨a, rfl, h1⟩
theorem is_skip (h : Is H v Say.skip.da) : ∃ a, v = .ref a ∧ H a = some (.tup [.str "skip"]) := by
  simp only [Say.da] at h
  cases h with
  | @tup a xs _ h1 h2 =>
    cases h2 with
    | cons p q =>
      cases q; cases p
      exact ⟨a, rfl, h1⟩
theorem is_app {c : Bool} {w : Str} {ps : List Say} (h : Is H v (Say.app c w ps).da) : ∃ a b xs, v = .ref a ∧ H a = some (.tup [.str (hApp c), .str w, .ref b]) ∧ H b = some (.tup xs) ∧ IsA H xs (ps.map Say.da) := by
  simp only [Say.da, Say.das_map] at h
  cases h with
  | @tup a xs _ h1 h2 =>
    cases h2 with
    | cons p q =>
      cases q with
      | cons p2 q2 =>
        cases q2 with
        | cons p3 q3 =>
          cases q3; cases p; cases p2
          cases p3 with
          | @tup b ys _ h3 h4 => exact ⟨a, b, ys, rfl, h1, h3, h4⟩
theorem is_two {c : Bool} {s t : Say} (h : Is H v (Say.two c s t).da) : ∃ a x y, v = .ref a ∧ H a = some (.tup [.str (hTwo c), x, y]) ∧ Is H x s.da ∧ Is H y t.da := by
  simp only [Say.da] at h
  cases h with
  | @tup a xs _ h1 h2 =>
    cases h2 with
    | cons p q =>
      cases q with
      | cons p2 q2 =>
        cases q2 with
        | cons p3 q3 =>
          cases q3; cases p
          exact ⟨a, _, _, rfl, h1, p2, p3⟩
theorem mk_name {a : Addr} {x : Str} (h : H a = some (.tup [.str "name", .str x])) : Is H (.ref a) (Say.name x).da := by
  simp only [Say.da]
  exact .tup h (.cons (.str _) (.cons (.str _) .nil))
theorem mk_skip {a : Addr} (h : H a = some (.tup [.str "skip"])) : Is H (.ref a) Say.skip.da := by
  simp only [Say.da]
  exact .tup h (.cons (.str _) .nil)
theorem mk_app {a b : Addr} {c : Bool} {w : Str} {xs : List V} {ps : List Say} (h : H a = some (.tup [.str (hApp c), .str w, .ref b])) (h2 : H b = some (.tup xs)) (h3 : IsA H xs (ps.map Say.da)) : Is H (.ref a) (Say.app c w ps).da := by
  simp only [Say.da, Say.das_map]
  exact .tup h (.cons (.str _) (.cons (.str _) (.cons (.tup h2 h3) .nil)))
theorem mk_two {a : Addr} {x y : V} {c : Bool} {s t : Say} (h : H a = some (.tup [.str (hTwo c), x, y])) (h2 : Is H x s.da) (h3 : Is H y t.da) : Is H (.ref a) (Say.two c s t).da := by
  simp only [Say.da]
  exact .tup h (.cons (.str _) (.cons h2 (.cons h3 .nil)))
/-- the head of a saying stands first -/
theorem is_head {s : Say} (h : Is H v s.da) : ∃ a r, v = .ref a ∧ H a = some (.tup (.str s.head :: r)) := by
  cases s with
  | name x => obtain ⟨a, rfl, h'⟩ := is_name h; exact ⟨a, _, rfl, h'⟩
  | skip => obtain ⟨a, rfl, h'⟩ := is_skip h; exact ⟨a, _, rfl, h'⟩
  | app c w ps => obtain ⟨a, b, xs, rfl, h, _⟩ := is_app h; exact ⟨a, _, rfl, h⟩
  | two c s t => obtain ⟨a, x, y, rfl, h, _⟩ := is_two h; exact ⟨a, _, rfl, h⟩
end
/-- within a depth, with heads among some, at most three parts -/
def Say.ok (f : Str → Prop) : Nat → Say → Prop
  | 0, _ => False
  | _ + 1, .name _ => f "name"
  | _ + 1, .skip => f "skip"
  | n + 1, .app c _ ps => f (hApp c) ∧ ps.length ≤ 3 ∧ ∀ p ∈ ps, Say.ok f n p
  | n + 1, .two c a b => f (hTwo c) ∧ Say.ok f n a ∧ Say.ok f n b
theorem Say.ok_mono {f : Str → Prop} : ∀ {n m : Nat} {s : Say}, n ≤ m → Say.ok f n s → Say.ok f m s
  | 0, _, _, _, h => h.elim
  | _ + 1, 0, _, h, _ => absurd h (by omega)
  | n + 1, m + 1, .name _, _, h => h
  | n + 1, m + 1, .skip, _, h => h
  | n + 1, m + 1, .app c w ps, hm, h => ⟨h.1, h.2.1, fun p hp => Say.ok_mono (by omega) (h.2.2 p hp)⟩
  | n + 1, m + 1, .two c a b, hm, h => ⟨h.1, Say.ok_mono (by omega) h.2.1, Say.ok_mono (by omega) h.2.2⟩
theorem Say.ok_imp {f g : Str → Prop} (k : ∀ x, f x → g x) : ∀ {n : Nat} {s : Say}, Say.ok f n s → Say.ok g n s
  | 0, _, h => h.elim
  | n + 1, .name _, h => k _ h
  | n + 1, .skip, h => k _ h
  | n + 1, .app c w ps, h => ⟨k _ h.1, h.2.1, fun p hp => Say.ok_imp k (h.2.2 p hp)⟩
  | n + 1, .two c a b, h => ⟨k _ h.1, Say.ok_imp k h.2.1, Say.ok_imp k h.2.2⟩
theorem Say.dep {f : Str → Prop} : ∀ {n : Nat} {s : Say}, Say.ok f n s → Da.dep (2 * n + 2) s.da
  | 0, _, h => h.elim
  | n + 1, .name _, _ => by
    simp only [Say.da]
    refine ⟨by simp, fun d hd => ?_⟩
    simp at hd
    rcases hd with rfl | rfl <;> exact True.intro
  | n + 1, .skip, _ => by
    simp only [Say.da]
    refine ⟨by simp, fun d hd => ?_⟩
    simp at hd
    subst hd
    exact True.intro
  | n + 1, .app c w ps, h => by
    simp only [Say.da, Say.das_map]
    refine ⟨by simp, fun d hd => ?_⟩
    simp at hd
    rcases hd with rfl | rfl | rfl
    · exact True.intro
    · exact True.intro
    · refine ⟨by rw [List.length_map]; have := h.2.1; omega, fun d hd => ?_⟩
      obtain ⟨p, hp, rfl⟩ := List.mem_map.mp hd
      have := Say.dep (h.2.2 p hp)
      exact this
  | n + 1, .two c a b, h => by
    simp only [Say.da]
    have k : ∀ {j : Nat} {d : Da}, Da.dep j d → Da.dep (j + 1) d := by
      intro j
      induction j with
      | zero => intro d h; exact h.elim
      | succ j ih =>
        intro d h
        cases d with
        | tup ds => exact ⟨h.1, fun d hd => ih (h.2 d hd)⟩
        | _ => exact True.intro
    refine ⟨by simp, fun d hd => ?_⟩
    simp at hd
    rcases hd with rfl | rfl | rfl
    · exact True.intro
    · exact k (Say.dep h.2.1)
    · exact k (Say.dep h.2.2)
theorem Da.dep_mono : ∀ {n m : Nat} {d : Da}, n ≤ m → Da.dep n d → Da.dep m d
  | 0, _, _, _, h => h.elim
  | _ + 1, 0, _, h, _ => absurd h (by omega)
  | n + 1, m + 1, .tup ds, hm, h => ⟨h.1, fun d hd => Da.dep_mono (by omega) (h.2 d hd)⟩
  | n + 1, m + 1, .non, _, _ => True.intro
  | n + 1, m + 1, .bl _, _, _ => True.intro
  | n + 1, m + 1, .int _, _, _ => True.intro
  | n + 1, m + 1, .str _, _, _ => True.intro
/-- the six heads -/
def heads6 : List Str := ["name", "made", "call", "either", "same", "skip"]
theorem str_len (x y : Str) : (x ++ y).length = x.length + y.length := by
  show (x.cps ++ y.cps).size = x.cps.size + y.cps.size
  rw [Array.size_append]
/-- what a draw may cost -/
def cost (m : Nat) : Nat := 20 * 4 ^ m
theorem cost_pos (m : Nat) : 20 ≤ cost m := by
  unfold cost
  have : 0 < 4 ^ m := Nat.pow_pos (by decide)
  omega
theorem cost_succ (m : Nat) : cost (m + 1) = 4 * cost m := by
  unfold cost
  rw [Nat.pow_succ]
  omega
theorem atC {xs : List Nat} {i : Int} (h0 : 0 ≤ i) (h1 : i < xs.length) : ∃ v, atI xs i = some v := by
  have hk : i.toNat < xs.length := by omega
  refine ⟨xs[i.toNat], ?_⟩
  unfold atI ixN
  rw [if_pos h0, if_pos h1]
  exact List.getElem?_eq_getElem hk
theorem ifT {c A B : Prop} [Decidable c] (hc : c) (h : A) : if decide c = true then A else B := by rw [decide_eq_true hc]; exact iteT h
theorem ifF {c A B : Prop} [Decidable c] (hc : ¬ c) (h : B) : if decide c = true then A else B := by rw [decide_eq_false hc]; exact iteF h
theorem ifBT {b : Bool} {A B : Prop} (hb : b = true) (h : A) : if b = true then A else B := by rw [if_pos hb]; exact h
theorem ifBF {b : Bool} {A B : Prop} (hb : b = false) (h : B) : if b = true then A else B := by rw [hb]; exact iteF h
theorem g_name {i : Nat} {v : V} {σ : L2.St} {H : Hp} {Q : L2.St → Hp → Prop} (h : Q (σ.set i (some v)) H) : gName i v σ H Q := h
theorem seq_cut {t1 t2 : TS} {D : Ends} {σ : L2.St} {H : Hp} (M : L2.St → Hp → Prop) (h2 : ∀ σ' H', M σ' H' → t2 D σ' H') (h1 : (∀ σ' H', M σ' H' → t2 D σ' H') → t1 { D with nx := t2 D } σ H) : tSeq t1 t2 D σ H := h1 h2
theorem flat_strs : ∀ ws : List Str, (ws.map V.str).all flatV = true
  | [] => rfl
  | x :: r => by rw [List.map_cons, List.all_cons, flat_strs r]; rfl
theorem inV_strs {x : Str} : ∀ {ws : List Str}, inV (.str x) (ws.map V.str) = true ↔ x ∈ ws
  | [] => by simp [inV]
  | y :: r => by
    have h := inV_strs (x := x) (ws := r)
    unfold inV at h ⊢
    rw [List.map_cons, List.any_cons, Bool.or_eq_true, h, List.mem_cons]
    show (y == x) = true ∨ _ ↔ _
    rw [beq_iff_eq]
    exact ⟨fun z => z.imp Eq.symm id, fun z => z.imp Eq.symm id⟩
theorem heads6_cases {x : Str} (h : x ∈ heads6) : x = "skip" ∨ x = "name" ∨ (∃ c, x = hTwo c) ∨ ∃ c, x = hApp c := by
  unfold heads6 at h
  simp only [List.mem_cons, List.not_mem_nil, or_false] at h
  rcases h with h | h | h | h | h | h
  · exact .inr (.inl h)
  · exact .inr (.inr (.inr ⟨false, h⟩))
  · exact .inr (.inr (.inr ⟨true, h⟩))
  · exact .inr (.inr (.inl ⟨false, h⟩))
  · exact .inr (.inr (.inl ⟨true, h⟩))
  · exact .inl h
theorem Keep.at {D : List Addr} {H H' : Hp} {a : Addr} {o : HO} (k : Keep D H H') (h : H a = some o) (n : a ∉ D) : H' a = some o := k a o h n
theorem Keep.is {D : List Addr} {H H' : Hp} {v : V} {d : Da} (k : Keep D H H') (n : NoTup D H) (h : Is H v d) : Is H' v d := h.mono (k.tups n)
theorem IsA.map_get {α : Type} {H : Hp} {f : α → Da} {vs : List V} {xs : List α} {i : Nat} {v : V} (h : IsA H vs (xs.map f)) (e : vs[i]? = some v) : ∃ x, xs[i]? = some x ∧ Is H v (f x) := by
  obtain ⟨d, h1, h2⟩ := h.getV e
  rw [List.getElem?_map] at h1
  obtain ⟨x, hx, rfl⟩ := Option.map_eq_some_iff.mp h1
  exact ⟨x, hx, h2⟩
end Nf

set_option Elab.async false
set_option linter.all false
set_option maxRecDepth 100000
namespace Nf
open PySem L2
theorem cut_whole {xs : List V} {lo hi : Option Int} (h : HT.sIx xs.length 0 lo = 0 ∧ HT.sIx xs.length xs.length hi = xs.length) : cutV xs lo hi = xs := by
  show (xs.drop (HT.sIx xs.length 0 lo)).take (HT.sIx xs.length xs.length hi - HT.sIx xs.length 0 lo) = xs
  rw [h.1, h.2, List.drop_zero, Nat.sub_zero, List.take_length]
theorem sl_any {K : PySem.W.Frag} {H : Hp} {a : Addr} {xs : List V} {lo hi : Option Int} {Q : VK} (h : H a = some (.tup xs)) (q : ∀ p H', Same H H' → H' p = some (.tup (cutV xs lo hi)) → Q (.ref p) H') : rSlA K (.ref a) lo hi H Q := by
  refine ⟨a, xs, rfl, SqT.of h, fun hw => q a H (Same.refl H) (by rw [cut_whole hw]; exact h), fun _ p hp => q p _ (same_new hp _) upd_same⟩
theorem cat_any {K : PySem.W.Frag} {H : Hp} {a b : Addr} {xs ys : List V} {Q : VK} (h : H a = some (.tup xs)) (h2 : H b = some (.tup ys)) (hz : xs.length + ys.length ≤ 100000) (q : ∀ p H', Same H H' → H' p = some (.tup (xs ++ ys)) → Q (.ref p) H') : rCatA K (.ref a) (.ref b) H Q := by
  refine ⟨a, b, xs, ys, rfl, rfl, SqT.of h, SqT.of h2, sz5 hz, fun e => ?_, fun _ e => ?_, fun _ _ p hp => q p _ (same_new hp _) upd_same⟩
  · subst e; exact q b H (Same.refl H) (by simpa using h2)
  · subst e; exact q a H (Same.refl H) (by simpa using h)
theorem cut_from1 {x : V} {xs : List V} : cutV (x :: xs) (some 1) none = xs := by
  show ((x :: xs).drop (HT.sIx (x :: xs).length 0 (some ((1 : Nat) : Int)))).take ((x :: xs).length - HT.sIx (x :: xs).length 0 (some ((1 : Nat) : Int))) = xs
  rw [HT.sIx_nat]
  have e : min 1 (x :: xs).length = 1 := by rw [List.length_cons]; omega
  rw [e, List.drop_succ_cons, List.drop_zero, List.length_cons, Nat.add_sub_cancel, List.take_length]
theorem cut_to1 {x : V} {xs : List V} : cutV (x :: xs) none (some 1) = [x] := by
  show ((x :: xs).drop 0).take (HT.sIx (x :: xs).length (x :: xs).length (some ((1 : Nat) : Int)) - 0) = [x]
  rw [HT.sIx_nat]
  have e : min 1 (x :: xs).length = 1 := by rw [List.length_cons]; omega
  rw [e]
  rfl
def Say.isApp : Say → Bool
  | .app _ _ _ => true
  | _ => false
def Say.isTwo : Say → Bool
  | .two _ _ _ => true
  | _ => false
theorem in_mc (s : Say) : inV (.str s.head) [.str "made", .str "call"] = s.isApp := by
  cases s with
  | app c _ _ => show inV (.str (hApp c)) _ = true; revert c; decide
  | two c _ _ => show inV (.str (hTwo c)) _ = false; revert c; decide
  | name x => show inV (.str "name") _ = false; decide
  | skip => show inV (.str "skip") _ = false; decide
theorem in_es (s : Say) : inV (.str s.head) [.str "either", .str "same"] = s.isTwo := by
  cases s with
  | app c _ _ => show inV (.str (hApp c)) _ = false; revert c; decide
  | two c _ _ => show inV (.str (hTwo c)) _ = true; revert c; decide
  | name x => show inV (.str "name") _ = false; decide
  | skip => show inV (.str "skip") _ = false; decide
theorem head_app {c : Bool} {w : Str} {ps : List Say} : (Say.app c w ps).head ≠ "name" := by
  show hApp c ≠ "name"; revert c; decide
theorem head_two {c : Bool} {a b : Say} : (Say.two c a b).head ≠ "name" := by
  show hTwo c ≠ "name"; revert c; decide
theorem head_skip : Say.skip.head ≠ "name" := by
  show ¬ (("skip" : Str) = "name"); decide
theorem at0 {x : V} {r : List V} : atI (x :: r) 0 = some x := at_of (j := 0) rfl rfl
/-- a list made of a tuple's (or list's) items, one by one, each by a call that leaves all as it was -/
theorem lc_map {α : Type} {J : It} {G : Hp → Prop} {xs : List V} (W : Walk J xs.length G (YAt xs)) {f g : α → Da} {ps : List α} {H1 : Hp} {Z : Addr} {i0 : Nat} {te : TE} {vs : List Nat} {σ : L2.St} {Qd : Hp → Prop}
    (hxs : IsA H1 xs (ps.map f)) (hG : ∀ H, Same H1 H → G H) (hlen : ps.length ≤ 90000) (hZ : H1 Z = none)
    (hw : ∀ x : V, wipe ((wipe σ vs).set i0 (some x)) vs = wipe σ vs)
    (turn : ∀ (i : Nat) (x : V) (p : α) (H2 : Hp) (Q : VK), ps[i]? = some p → Same H1 H2 → Is H2 x (f p) → (∀ y H4, Same H2 H4 → Is H4 y (g p) → Q y H4) → te ((wipe σ vs).set i0 (some x)) H2 Q)
    (done : ∀ (H2 : Hp) (us : List V), Same H1 H2 → H2 Z = some (.lst us) → IsA H2 us (ps.map g) → Qd H2) :
    ∃ W : Nat → Nat → Hp → Prop, (∃ m, W 0 m (upd H1 Z (.lst []))) ∧ ∀ i m H, W i m H →
      (J.stop i H ∧ Qd H) ∨ (J.go i H ∧ ∃ Nx : Hp → Prop, (∀ H', Nx H' → ∃ m', m' < m ∧ W (i + 1) m' H') ∧ ∀ x H', J.yld i H x H' → gName i0 x (wipe σ vs) H' fun σ2 H2 => wipe σ2 vs = wipe σ vs ∧ tYes σ2 H2 fun b H3 =>
        if b = true then te σ2 H3 fun y H4 => ∃ acc, H4 Z = some (.lst acc) ∧ acc.length < sizeLine ∧ Nx (upd H4 Z (.lst (acc ++ [y]))) else Nx H3) := by
  have hxl : xs.length = ps.length := by rw [hxs.len, List.length_map]
  refine lc_it W (fun i H' => ∃ us : List V, Same H1 H' ∧ H' Z = some (.lst us) ∧ IsA H' us ((ps.take i).map g)) ?_ ?_ ?_ ?_
  · exact ⟨[], same_new hZ _, upd_same, .nil⟩
  · rintro i H2 _ ⟨us, h, _⟩
    exact hG H2 h
  · rintro i x H2 H3 hi ⟨us, S2, hZ2, IA⟩ ⟨rfl, hx⟩
    obtain ⟨p, hp, hxp⟩ := hxs.map_get hx
    refine ⟨hw x, yes_if ?_⟩
    refine turn i x p _ _ hp S2 (hxp.mono S2.tups) fun y H4 S4 I4 => ?_
    have lus : us.length = i := by rw [IA.len, List.length_map, List.length_take]; omega
    refine ⟨us, S4 _ _ hZ2, sz5' (by omega), us ++ [y], (S2.trans S4).mutN hZ, upd_same, ?_⟩
    have N : TupS H4 (upd H4 Z (.lst (us ++ [y]))) := (TupS.refl H4).mutL (S4 _ _ hZ2)
    rw [List.take_add_one, hp, List.map_append]
    exact ((IA.mono S4.tups).mono N).app (.cons (I4.mono N) .nil)
  · rintro H2 ⟨us, S2, hZ2, IA⟩
    rw [hxl, List.take_length] at IA
    exact done H2 us S2 hZ2 IA
/-! ### filled -/
abbrev Fl := List (Str × Say)
mutual
def Say.fill (fs : Fl) : Say → Say
  | .name x => (fs.lookup x).getD (.name x)
  | .skip => .skip
  | .app c w ps => .app c w (Say.fillA fs ps)
  | .two c a b => .two c (Say.fill fs a) (Say.fill fs b)
def Say.fillA (fs : Fl) : List Say → List Say
  | [] => []
  | s :: r => Say.fill fs s :: Say.fillA fs r
end
theorem Say.fillA_map {fs : Fl} : ∀ ps : List Say, Say.fillA fs ps = ps.map (Say.fill fs)
  | [] => rfl
  | s :: r => by simp only [Say.fillA, List.map_cons, Say.fillA_map r]
theorem Say.fill_app {fs : Fl} {c : Bool} {w : Str} {ps : List Say} : (Say.app c w ps).fill fs = .app c w (ps.map (Say.fill fs)) := by simp only [Say.fill, Say.fillA_map]
theorem Say.fill_two {fs : Fl} {c : Bool} {a b : Say} : (Say.two c a b).fill fs = .two c (a.fill fs) (b.fill fs) := by simp only [Say.fill]
theorem Say.fill_skip {fs : Fl} : Say.skip.fill fs = .skip := by simp only [Say.fill]
theorem Say.fill_name {fs : Fl} {x : Str} : (Say.name x).fill fs = (fs.lookup x).getD (.name x) := by simp only [Say.fill]
def pairDa (p : Str × Say) : Da := .tup [.str p.1, p.2.da]
def flDa (fs : Fl) : Da := .tup (fs.map pairDa)
def Say.parts : Say → List Say
  | .app _ _ ps => ps
  | .two _ a b => [a, b]
  | _ => []
def Say.withP : Say → List Say → Say
  | .app c w _, ps => .app c w ps
  | .two c _ _, [a, b] => .two c a b
  | s, _ => s
theorem Say.fill_parts {fs : Fl} {s : Say} (h : s.head ≠ "name") : s.fill fs = s.withP (s.parts.map (Say.fill fs)) := by
  cases s with
  | name x => exact absurd rfl h
  | skip => simp only [Say.fill, Say.withP]
  | app c w ps => rw [Say.fill_app]; rfl
  | two c a b => rw [Say.fill_two]; rfl
theorem Say.ok_parts {f : Str → Prop} {n : Nat} {s : Say} (h : Say.ok f (n + 1) s) : ∀ p ∈ s.parts, Say.ok f n p := by
  cases s with
  | name x => intro p hp; cases hp
  | skip => intro p hp; cases hp
  | app c w ps => exact h.2.2
  | two c a b =>
    intro p hp
    simp only [Say.parts, List.mem_cons, List.not_mem_nil, or_false] at hp
    rcases hp with rfl | rfl
    · exact h.2.1
    · exact h.2.2
theorem Say.parts_le {f : Str → Prop} {n : Nat} {s : Say} (h : Say.ok f (n + 1) s) : s.parts.length ≤ 3 := by
  cases s with
  | name x => exact Nat.zero_le _
  | skip => exact Nat.zero_le _
  | app c w ps => exact h.2.1
  | two c a b => show 2 ≤ 3; decide
theorem is_pair {H : Hp} {v : V} {p : Str × Say} (h : Is H v (pairDa p)) : ∃ a y, v = .ref a ∧ H a = some (.tup [.str p.1, y]) ∧ Is H y p.2.da := by
  cases h with
  | @tup a xs _ h1 h2 =>
    cases h2 with
    | cons p1 q1 =>
      cases q1 with
      | cons p2 q2 =>
        cases q2; cases p1
        exact ⟨a, _, rfl, h1, p2⟩
theorem is_fl {H : Hp} {v : V} {fs : Fl} (h : Is H v (flDa fs)) : ∃ a xs, v = .ref a ∧ H a = some (.tup xs) ∧ IsA H xs (fs.map pairDa) := by
  cases h with
  | @tup a xs _ h1 h2 => exact ⟨a, xs, rfl, h1, h2⟩
/-- a dict of the fills -/
def DR (H : Hp) (kvs : List (Key × V)) (fs : Fl) : Prop := ∀ x : Str, (∀ s, fs.lookup x = some s → ∃ u, valV kvs (Sum.inr x) = some u ∧ Is H u s.da) ∧ (fs.lookup x = none → valV kvs (Sum.inr x) = none)
theorem DR.mono {H H' : Hp} {kvs : List (Key × V)} {fs : Fl} (d : DR H kvs fs) (k : TupS H H') : DR H' kvs fs := fun x =>
  ⟨fun s hs => let ⟨u, h1, h2⟩ := (d x).1 s hs; ⟨u, h1, h2.mono k⟩, (d x).2⟩
theorem DR.snoc {H : Hp} {kvs : List (Key × V)} {fs : Fl} {x : Str} {s : Say} {u : V} (d : DR H kvs fs) (hn : fs.lookup x = none) (h : Is H u s.da) : DR H (putK kvs (Sum.inr x) u) (fs ++ [(x, s)]) := fun y => by
  rw [List.lookup_append, valV_put]
  by_cases e : y = x
  · subst e
    rw [hn, if_pos rfl]
    have e1 : List.lookup y [(y, s)] = some s := by simp [List.lookup]
    rw [e1]
    exact ⟨fun s' hs' => by
      have : s = s' := by simpa using hs'
      subst this
      exact ⟨u, rfl, h⟩, fun z => by simp at z⟩
  · have e0 : (y == x) = false := beq_eq_false_iff_ne.mpr e
    have e1 : List.lookup y [(x, s)] = none := by simp only [List.lookup, e0]
    have e2 : ¬ (Sum.inr y : Key) = Sum.inr x := fun z => e (Sum.inr.inj z)
    rw [e1, if_neg e2, Option.or_none]
    exact d y
theorem put_len {kvs : List (Key × V)} {k : Key} {v : V} : (putK kvs k v).length ≤ kvs.length + 1 := by
  unfold putK
  split
  · rw [List.length_map]; omega
  · rw [List.length_append]; exact Nat.le_refl _
theorem lookup_none_of {fs : Fl} {x : Str} (h : x ∉ fs.map Prod.fst) : fs.lookup x = none := by
  induction fs with
  | nil => rfl
  | cons p r ih =>
    simp only [List.map_cons, List.mem_cons, not_or] at h
    obtain ⟨y, s⟩ := p
    have e : (x == y) = false := beq_eq_false_iff_ne.mpr h.1
    simp only [List.lookup, e]
    exact ih h.2
theorem nodup_take {fs : Fl} (h : (fs.map Prod.fst).Nodup) {i : Nat} {p : Str × Say} (hp : fs[i]? = some p) : p.1 ∉ (fs.take i).map Prod.fst := by
  intro hm
  have hi : i < fs.length := (List.getElem?_eq_some_iff.mp hp).1
  have hpi : fs[i] = p := (List.getElem?_eq_some_iff.mp hp).2
  rw [List.mem_map] at hm
  obtain ⟨q, hq, hqe⟩ := hm
  rw [List.mem_take_iff_getElem] at hq
  obtain ⟨j, hj, hjq⟩ := hq
  have hji : j < i := by omega
  have hjl : j < fs.length := by omega
  have e1 : (fs.map Prod.fst)[j]? = some p.1 := by
    rw [List.getElem?_map, List.getElem?_eq_getElem hjl]
    show some (fs[j].1) = some p.1
    rw [hjq, hqe]
  have e2 : (fs.map Prod.fst)[i]? = some p.1 := by rw [List.getElem?_map, hp]; rfl
  exact absurd (nd_ix h e1 e2) (by omega)
theorem Say.fill_ok {fs : Fl} {k : Nat} (hk : ∀ p ∈ fs, Say.ok (fun _ => True) k p.2) : ∀ {n : Nat} {s : Say}, Say.ok (fun _ => True) n s → Say.ok (fun _ => True) (n + k) (s.fill fs)
  | 0, _, h => h.elim
  | n + 1, .name x, _ => by
    rw [Say.fill_name]
    cases hl : fs.lookup x with
    | none =>
      show Say.ok _ (n + 1 + k) (.name x)
      rw [show n + 1 + k = (n + k) + 1 by omega]
      exact True.intro
    | some s =>
      obtain ⟨l1, l2, e, _⟩ := List.lookup_eq_some_iff.mp hl
      exact Say.ok_mono (by omega) (hk (x, s) (by rw [e]; simp))
  | n + 1, .skip, _ => by
    rw [Say.fill_skip, show n + 1 + k = (n + k) + 1 by omega]
    exact True.intro
  | n + 1, .app c w ps, h => by
    rw [Say.fill_app, show n + 1 + k = (n + k) + 1 by omega]
    refine ⟨True.intro, by rw [List.length_map]; exact h.2.1, fun p hp => ?_⟩
    obtain ⟨q, hq, rfl⟩ := List.mem_map.mp hp
    exact Say.fill_ok hk (h.2.2 q hq)
  | n + 1, .two c a b, h => by
    rw [Say.fill_two, show n + 1 + k = (n + k) + 1 by omega]
    exact ⟨True.intro, Say.fill_ok hk h.2.1, Say.fill_ok hk h.2.2⟩
mutual
theorem Say.fill_nil : ∀ s : Say, s.fill [] = s
  | .name x => by rw [Say.fill_name]; rfl
  | .skip => Say.fill_skip
  | .app c w ps => by simp only [Say.fill, Say.fillA_nil ps]
  | .two c a b => by simp only [Say.fill, Say.fill_nil a, Say.fill_nil b]
theorem Say.fillA_nil : ∀ ps : List Say, Say.fillA [] ps = ps
  | [] => rfl
  | s :: r => by simp only [Say.fillA, Say.fill_nil s, Say.fillA_nil r]
end
end Nf

set_option Elab.async false
set_option linter.all false
set_option maxRecDepth 100000
namespace Nf
open PySem PySem.Spec PyProof.Rows L2
/-! ### enumerate of a tuple -/
abbrev enumObj (n : Addr) : Obj := { cls := .type "enumerate", data := .fields #[.none, .bool false, .ref n, rawInt 0, .none, .none] }
abbrev titObj (t : Addr) : Obj := { cls := .type "tuple_iterator", data := .fields #[.ref t, .int 0 0] }
set_option maxHeartbeats 1000000 in
theorem meets_enumT (t : Addr) (its : Array Value) : Meets (Builtin.«enumerate.__new__» ⟨[.type "enumerate", .ref t], []⟩)
    (fun _ R s => s.heap.IsTuple t its ∧ R (.ok (.ret (.ref (s.heap.push (titObj t)).objs.size))) { s with heap := (s.heap.push (titObj t)).push (enumObj s.heap.objs.size) }) :=
  .of_wp fun prog w A R s h => by
    obtain ⟨hp, gg, dr, tk, os⟩ := s
    obtain ⟨ht, h⟩ := h
    have hsub := sub_enumerate
    have it1 : ∀ {A2 : Around} {E2 : Value → Shared → Prop} {Q2 : Value → Shared → Prop}, Q2 (.ref hp.objs.size) ⟨hp.push (titObj t), gg, dr, tk, os⟩ → wpAny (model prog w) A2 (pyIter (.ref t)) Q2 E2 ⟨hp, gg, dr, tk, os⟩ :=
      fun q => (begins_tuple t its).iter prog w _ _ ⟨hp, gg, dr, tk, os⟩ _ ht q
    wp_walk using it1
    refine wpAny_stack_any fun st => wpAny_pure ?_
    split
    · rename_i cc _ _ _ _ _
      cases (cc == Value.type "enumerate") <;> (wp_walk using it1; exact ⟨_, rfl, h⟩)
    · wp_walk using it1
      exact ⟨_, rfl, h⟩
theorem call_enumT {prog : Program} {w : World} {A : Around} {E : Value → Shared → Prop} {s : Shared} {t : Addr} {its : Array Value} {Q : Value → Shared → Prop} (ht : s.heap.IsTuple t its)
    (h : ∀ h', IsEnum h' (s.heap.objs.size + 1) s.heap.objs.size 0 .none → h'.IsTupleIter s.heap.objs.size t 0 → h'.objs.size = s.heap.objs.size + 2 →
      (∀ b o, s.heap.get? b = some o → h'.get? b = some o) → Q (.ref (s.heap.objs.size + 1)) { s with heap := h' }) :
    wpAny (model prog w) A (call (.type "enumerate") [.ref t]) Q E s := by
  have hz : (s.heap.push (titObj t)).objs.size = s.heap.objs.size + 1 := Heap.size_push ..
  refine callType_new F.called_enumerate (by decide) (F.typeCall_enumerate_1 _) (F.newCall_enumerate_1 _)
    (fun obj => F.args_object_init_2 obj _) F.entry_enumerate_new (meets_enumT t its) ⟨ht, ?_⟩
  have he : IsEnum ((s.heap.push (titObj t)).push (enumObj s.heap.objs.size)) (s.heap.objs.size + 1) s.heap.objs.size 0 .none := by
    have q := Heap.get?_push_size (s.heap.push (titObj t)) (o := enumObj s.heap.objs.size) rfl
    rw [hz] at q
    exact q
  show _ ∧ _
  rw [hz]
  exact ⟨⟨_, he, rfl⟩, h _ he ⟨_, Heap.get?_push_of_some _ (Heap.get?_push_size _ rfl), rfl, rfl⟩ (by rw [Heap.size_push, hz])
    fun b o x => Heap.get?_push_of_some _ (Heap.get?_push_of_some _ x)⟩
theorem next_enumT_end {prog : Program} {w : World} {A : Around} {E : Value → Shared → Prop} {s : Shared} {e it l : Addr} {i : Nat} {n : Int} {its : Array Value} {old : Value} {Q : Option Value → Shared → Prop}
    (hh : A.handled = none) (he : IsEnum s.heap e it n old) (hit : s.heap.IsTupleIter it l i) (hl : s.heap.IsTuple l its) (hx : its[i]? = none)
    (hQ : ∀ h', Heap.ExtBut it s.heap h' → Q none { s with heap := h' }) : wpAny (model prog w) A (pyNext (.ref e)) Q E s := by
  have ty : s.TypeIs (.ref e) "enumerate" := ⟨_, he, rfl⟩
  unfold pyNext
  refine wpAny_bind (wpAny_attempt ?_)
  refine wpAny_callSpecial?_slot (name := Str.ofString "__next__") ty F.slot_enumerate_next ?_
  refine wpAny_call_entry F.slot_enumerate_next ty F.entry_enumerate_next ?_ (F.args_enumerate_next_1 _)
  show wpAny _ _ (field (.ref e) 2 >>= _) _ _ s
  refine wpAny_bind (wpAny_field he rfl (x := .ref it) rfl ?_)
  refine wpAny_bind (wpAny_nextOf_tuple_end hh hit hl hx fun h' z hk hz => ?_)
  obtain ⟨oz, hoz, hcz⟩ := hz
  exact wpAny_bind (wpAny_isInstance (T := "StopIteration") (b := true) ⟨oz, hoz, hcz⟩ isSubtype_stop (wpAny_pure (hQ _ hk)))
/-- the tuple at a, each item in a new pair -/
def IteT (K : PySem.W.Frag) (a : Addr) : It where
  go := fun i H => ∃ (xs : List V) (x : V), SqT K H a xs ∧ xs[i]? = some x
  yld := fun i H v H' => ∃ T x, v = .ref T ∧ H T = none ∧ H' = upd H T (.tup [.int (i : Nat), x]) ∧ ∀ xs, SqT K H a xs → xs[i]? = some x
  stop := fun i H => ∃ xs : List V, SqT K H a xs ∧ xs.length ≤ i
theorem turn_enumT {P : Program} {w : World} {K : PySem.W.Frag} {elts : List Expr} {kk : Nat} {tpos : Pos} (a e it : Addr) (hae : a ≠ it) (hae2 : a ≠ e) :
    Turn P w K (.Tuple elts kk tpos) (IteT K a) [e, it] e (fun i h => (∃ old, IsEnum h e it ((i : Nat) : Int) old) ∧ h.IsTupleIter it a i ∧ e ≠ it) where
  mem := by simp
  obj := fun i h st b hb => by
    obtain ⟨⟨old, he⟩, ⟨o, ho, hc, hd⟩, _⟩ := st
    rcases (show b = e ∨ b = it by simpa using hb) with z | z
    · exact z ▸ ⟨_, he, fun v q => nomatch q⟩
    · exact z ▸ ⟨o, ho, fun v q => by rw [hd] at q; cases q⟩
  keep := fun i h h' st k => ⟨st.1.imp fun old he => k e (by simp) _ he, st.2.1.at fun o q => k it (by simp) o q, st.2.2⟩
  item := by
    intro X hP hw hK hc i pins s σ H E I hf st hg
    subst hP hw hK
    obtain ⟨⟨old, he⟩, hit, hne⟩ := st
    obtain ⟨xs, x, hq, hx⟩ := hg
    obtain ⟨its, rv, p, hz⟩ := I.tuple hq
    obtain ⟨u, hu, ru⟩ := rv.get hx
    have hel : e < s.heap.objs.size := Heap.lt_size he
    have hil : it < s.heap.objs.size := by obtain ⟨_, q, _⟩ := hit; exact Heap.lt_size q
    have hlt : i < its.toArray.size := by
      have := (List.getElem?_eq_some_iff.mp hu).1
      simpa using this
    have hef : e ∉ [it, a] := by
      intro m
      rcases (show e = it ∨ e = a by simpa using m) with z | z
      · exact hne z
      · exact hae2 z.symm
    refine wpAny_pyNext_enum_itemD (Draws.tuple (A := X.A.in1) (show X.A.in1.handled = none from I.ok.hd hc) it a hae its.toArray) he ⟨hit, p⟩ hlt hne hef fun y h' tk hy ho hit' hT hsz hk => ?_
    have ey : y = u := by
      have h1 : its[i]? = some y := by simpa using hy
      rw [hu] at h1
      exact (Option.some.inj h1).symm
    subst ey
    refine ⟨_, rfl, wpAny_letOwnedTupleGo_enum (s := { s with heap := h', toks := tk + 1 }) ho fun h'' he' sb => ?_⟩
    have hT2 : h''.get? s.heap.objs.size = some { cls := .type "tuple", data := .seq #[.int i tk, y] } := (sb.2 _ (Nat.ne_of_gt hel)).trans hT
    have new : ObjOk X.prog X.w (upd H s.heap.objs.size (.tup [.int (i : Nat), x])) h'' s.heap.objs.size (.tup [.int (i : Nat), x]) :=
      ⟨by show 2 ≤ sizeLine; decide, [.int i tk, y], .cons ⟨_, rfl⟩ (.cons ru .nil), ⟨_, hT2, rfl, _, rfl⟩⟩
    have I1 : Inv X pins σ (upd H s.heap.objs.size (.tup [.int (i : Nat), x])) { s with heap := h'', toks := tk + 1 } :=
      I.turnedNew (ch := [e, it]) (fun b ob hb q => by
        have nb : b ≠ e ∧ b ≠ it := by simpa using hb
        exact (sb.2 b nb.1).trans (hk b ob nb.1 nb.2 q)) hf (Nat.le_refl _) new
    refine ⟨.ref s.heap.objs.size, _, I1, rfl, ⟨_, x, rfl, I.hok.fresh (Nat.le_refl _), rfl, fun ys hy => by rw [I.tuple_inj hy hq]; exact hx⟩, ⟨⟨y, ?_⟩, hit'.1.at fun o q => (sb.2 it (Ne.symm hne)).trans q, hne⟩, fun b hb => ?_⟩
    · rw [show ((i + 1 : Nat) : Int) = (i : Int) + 1 by omega]
      exact he'
    · have hb' : b < s.heap.objs.size := by
        rcases (show b = e ∨ b = it by simpa using hb) with z | z
        · exact z ▸ hel
        · exact z ▸ hil
      rw [upd_ne (Nat.ne_of_lt hb')]
      exact (hf b hb).1
  done := by
    intro X hP hw hK hc i pins s σ H E I hf st hg
    subst hP hw hK
    obtain ⟨⟨old, he⟩, hit, hne⟩ := st
    obtain ⟨xs, hq, hx⟩ := hg
    obtain ⟨its, rv, p, hz⟩ := I.tuple hq
    obtain ⟨f0, f1, f2, f3, f4, f5⟩ := hf it (by simp)
    have hl := rv.length
    exact next_enumT_end (I.ok.hd hc) he hit p (by simp; omega) fun h' eb => ⟨rfl, I.turned (t' := s.toks) (fun b o hb q => eb b o hb q) f0 f1 f3 f4 f5⟩
  self := fun A i s Q E st h => by
    obtain ⟨⟨_, he⟩, _⟩ := st
    exact wpAny_pyIter_enum he h
def iEnumT (K : PySem.W.Frag) (ta : TA) : TI := fun σ H R => ta σ H fun vs H1 => ∃ a xs, vs = [.ref a] ∧ SqT K H1 a xs ∧ R (IteT K a) H1
theorem pi_enumT {X : Cx} {e : Expr} {ta : TA} {p pos tpos : Pos} {elts : List Expr} {kk : Nat} (hg : Gl X "enumerate") (hm : X.mg "enumerate" = none) (ha : PA X [e] ta)
    (hs : starEach [e] X.env = [(false, eval e X.env)] := by rfl) : PI X (.Tuple elts kk tpos) (.Call (.Name "enumerate" p) [e] [] pos) (iEnumT X.K ta) := by
  refine ⟨fun pins s σ H R I h => ?_⟩
  refine Call_ (ld_blt I hg hm boot_enumerate (callWith_type1 (thn (ha.run pos pins s σ H _ I h) fun us s1 ⟨vs, H1, I1, r1, q1⟩ => ?_) hs rfl))
  obtain ⟨a, xs, ex, hq, q⟩ := q1
  subst ex
  cases r1 with
  | cons r rr =>
    cases rr
    cases r
    obtain ⟨its, rv, pt, hz⟩ := I1.tuple hq
    have hal : a < s1.heap.objs.size := by
      obtain ⟨o, ho, _⟩ := id pt
      exact Heap.lt_size ho
    refine call_enumT (its := its.toArray) pt fun h' he hit hsz hk => wpAny_pyIter_enum he ?_
    have I2 : Inv X pins σ H1 { s1 with heap := h' } := I1.kept (t' := s1.toks) hk
    refine ⟨s1.heap.objs.size + 1, [s1.heap.objs.size + 1, s1.heap.objs.size], _, _, H1, rfl, I2, turn_enumT a (s1.heap.objs.size + 1) s1.heap.objs.size (Nat.ne_of_lt hal) (Nat.ne_of_lt (Nat.lt_succ_of_lt hal)), ⟨⟨.none, he⟩, hit, Nat.succ_ne_self _⟩, fun b hb => ?_, q⟩
    have hle : s1.heap.objs.size ≤ b := by
      rcases (show b = s1.heap.objs.size + 1 ∨ b = s1.heap.objs.size by simpa using hb) with z | z
      · exact z ▸ Nat.le_succ _
      · exact z ▸ Nat.le_refl _
    exact I1.fpOk hle (I1.hok.fresh hle)
theorem walk_enumT {K : PySem.W.Frag} {a : Addr} {xs : List V} : Walk (IteT K a) xs.length (fun H => SqT K H a xs) (YPair (fun i => some (.int (i : Nat))) (fun i => xs[i]?)) := by
  refine ⟨fun i _ hi q => ⟨xs, xs[i], q, by simp [hi]⟩, fun _ q => ⟨xs, q, Nat.le_refl _⟩, fun i H v H' _ q y => ?_⟩
  obtain ⟨T, x, h1, h2, h3, h4⟩ := y
  exact ⟨T, .int (i : Nat), x, h1, h2, h3, rfl, h4 xs q⟩
end Nf

set_option Elab.async false
set_option linter.all false
set_option maxRecDepth 100000
namespace Nf
open PySem PySem.Spec PyProof.Rows L2
/-! ### tuple of a dict's keys -/
section
variable {prog : Program} {w : World} {A : Around} {E : Value → Shared → Prop} {s : Shared} {r d : Addr} {n : Nat} {TT : String} {P : Nat → Value → Prop} {OK : Heap → Prop}
theorem code_tup_src {Q : Value → Shared → Prop} (S : PySem.W.KdlSrc prog w TT r d n P OK) (hh : A.handled = none) (hok : OK s.heap) (hn : n ≤ sizeLine)
    (h : ∀ (h' : Heap) (tk : Nat) (acc : Array Value), (∀ b o, s.heap.get? b = some o → h'.get? b = some o) → ItemsOf P acc n →
      Q (.ref h'.objs.size) { s with heap := h'.push { cls := .type "tuple", data := .seq acc }, toks := tk }) :
    codeAny (model prog w) A (.call (.builtin "tuple.__new__") ⟨[.type "tuple", .ref r], []⟩) (wants Q E) s := by
  refine codeAny_of_tree ?_
  show wpAny _ A.in1 (do
    checkBuiltinCall "tuple.__new__" ⟨[.type "tuple", .ref r], []⟩
    again (.builtin "tuple.__new__" ⟨[.type "tuple", .ref r], []⟩)) _ _ s
  refine wpAny_bind (wpAny_of_eq (F.newCall_tuple_1 _) ?_)
  refine wpAny_pure ⟨plainId_quiet F.plain_tuple_new _, codeAny_builtin F.entry_tuple_new ?_⟩
  rw [Around.under_plainId F.plain_tuple_new _]
  have s1 := sub_tuple_self
  have s2 := init_tuple_lookup
  have s3 := madeHere_tuple
  have ty := S.type s hok
  have nt : TT ≠ "tuple" := fun e => by
    have q := S.notTuple
    rw [e] at q
    exact absurd q (by decide)
  have nt2 := S.notTuple
  have hh1 : A.in1.handled = none := hh
  wp_walk using wpAny_typeOf ty, PySem.W.kdu_collect (A := A.in1) S hh1 hok hn
  intro h' tk acc hk hacc
  show wpAny _ _ (Builtin.Tuple.tupleExact acc.toList.toArray >>= fun v => ret v) _ _ _
  unfold Builtin.Tuple.tupleExact
  have e : acc.toList.toArray = acc := by simp
  rw [e]
  refine wpAny_bind (wpAny_newObj_type (wpAny_pure (h h' tk acc hk hacc)) ?_)
  show acc.size ≤ sizeLine
  rw [hacc.1]
  exact hn
theorem call_tup_src {Q : Value → Shared → Prop} (S : PySem.W.KdlSrc prog w TT r d n P OK) (hh : A.handled = none) (hok : OK s.heap) (hn : n ≤ sizeLine)
    (h : ∀ (h' : Heap) (tk : Nat) (acc : Array Value), (∀ b o, s.heap.get? b = some o → h'.get? b = some o) → ItemsOf P acc n →
      Q (.ref h'.objs.size) { s with heap := h'.push { cls := .type "tuple", data := .seq acc }, toks := tk }) :
    wpAny (model prog w) A (call (.type "tuple") [.ref r]) Q E s := by
  refine callType_codes (Q₁ := fun obj z => z.TypeIs obj "tuple" ∧ Q obj z) F.called_tuple (F.typeCall_tuple_1 _) F.entry_object_init ?_ fun obj z hz => ?_
  · exact code_tup_src (A := A.in1) S hh hok hn fun h' tk acc hk hacc => ⟨⟨_, Heap.get?_push_size _ rfl, rfl⟩, h h' tk acc hk hacc⟩
  · exact ⟨hz.1, F.args_object_init_2 obj _, object_init_meets F.called_tuple.init.lookup F.called_tuple.made (by decide) prog w A.in1 _ z ⟨hz.1, rfl, hz.2⟩⟩
end
def rTupD : List V → Hp → VK → Prop := fun xs H Q => ∃ p kvs, xs = [.ref p] ∧ H p = some (.dK kvs) ∧ ∀ q, H q = none → Q (.ref q) (upd H q (.tup (kvs.map fun kv => kV kv.1)))
theorem call_tup_dK {X : Cx} (hc : X.calm = true) : CallR X (.type "tuple") rTupD := by
  intro pins s σ H xs us Q I r h
  obtain ⟨p, kvs, rfl, hk, q⟩ := h
  obtain ⟨u, rfl, rx⟩ := vals1 r
  obtain rfl : u = Value.ref p := rx
  obtain ⟨z, lo, vs, rk, hd⟩ := (show ObjOk X.prog X.w H s.heap p (.dK kvs) from I.hok p _ hk)
  obtain ⟨ep, hat⟩ := hd.dictAt
  have hl : kvs.length = vs.length := Paired.length rk
  refine call_tup_src (PySem.W.kdl_dict (knd := mixKind X.prog X.w) (kvs := vs) (ep := ep) lo) (I.ok.hd hc) hat (hl ▸ z) fun h' tk acc hkeep hacc => ?_
  have I1 : Inv X pins σ H { s with heap := h', toks := tk } := I.kept (t' := tk) hkeep
  refine ⟨.ref h'.objs.size, upd H h'.objs.size (.tup (kvs.map fun kv => kV kv.1)), I1.laid (t' := tk) (fun b o e => Heap.get?_push_of_some _ e) (Nat.le_refl _) ?_, rfl, q _ (I1.hok.fresh (Nat.le_refl _))⟩
  refine (show ObjOk X.prog X.w _ _ _ (.tup (kvs.map fun kv => kV kv.1)) from ⟨by rw [List.length_map]; exact z, acc.toList, ?_, ?_⟩)
  · have el : acc.toList.length = acc.size := by simp
    refine vals_of_at (by rw [List.length_map, el, hacc.1, hl]) fun j x y h1 h2 => ?_
    obtain ⟨k, m, hky, hi⟩ := hacc.2 j y (by rw [← Array.getElem?_toList]; exact h2)
    have e1 : (kvs.map (·.1))[j]? = some k := by
      rw [KV.keys rk, List.getElem?_map, hky] <;> rfl
    rw [List.getElem?_map] at h1 e1
    obtain ⟨kv, hkv, rfl⟩ := Option.map_eq_some_iff.mp h1
    rw [hkv] at e1
    cases e1
    exact keyIs_rel hi
  · rw [Array.toArray_toList]
    exact IsTup.new _ _
/-! ### y = {k: v for ..} -/
section
variable {X : Cx}
theorem ps_setDc {i : Nat} {y : Str} {py : Pos} {kx vx tg iter : Expr} {ifs : List Expr} {scope : Scope} {own : List (Str × Nat)} {pos spos : Pos} {wi : TI} {g : TG} {tt : TT} {tk tv : TE}
    (hc : X.calm = true) (hN : X.N.Nodup) (hy : X.N[i]? = some y) (hyl : X.env.scope.names.lookup y = some .local)
    (hsw : swapsWith (.DictComp kx vx [⟨tg, iter, ifs, 0⟩] scope pos) (some (.Name y py)) spos.line X.env = pure true)
    (hi : PI X tg iter wi) (ok : BlkOk X.N X.env.scope scope own)
    (hg : ∀ (z : Shared) (H : Hp) (C : Addr) (cl : List (Str × Addr)) (fp : List Addr), PG (X.blk z H scope (compEnvC scope cl C X.env) fp) tg g)
    (ht : ∀ (z : Shared) (H : Hp) (C : Addr) (cl : List (Str × Addr)) (fp : List Addr), PTs (X.blk z H scope (compEnvC scope cl C X.env) fp) ifs tt)
    (hk : ∀ (z : Shared) (H : Hp) (C : Addr) (cl : List (Str × Addr)) (fp : List Addr), PE (X.blk z H scope (compEnvC scope cl C X.env) fp) kx tk)
    (he : ∀ (z : Shared) (H : Hp) (C : Addr) (cl : List (Str × Addr)) (fp : List Addr), PE (X.blk z H scope (compEnvC scope cl C X.env) fp) vx tv)
    (hs : ∀ x, foldedSetIterable iter X.env x = pure x := by intro _; rfl) :
    PS X (.Assign [.Name y py] (.DictComp kx vx [⟨tg, iter, ifs, 0⟩] scope pos) spos) (tAsg (tDc wi g tt tk tv (own.map (·.2))) (gName i)) := by
  refine ⟨fun pins s σ H D I h => ?_⟩
  rw [exec_Assign_Name_used _ _ _ _ hsw]
  refine wpAny_bind (wpAny_standAt (wpAny_bind ?_))
  show wpAny _ X.A (do
    let _ ← comprehension (.DictComp kx vx [⟨tg, iter, ifs, 0⟩] scope pos) scope X.env (firstIterPos [⟨tg, iter, ifs, 0⟩] pos) newDict false (eval iter X.env) (some (assign (.Name y py) X.env))) _ _ s
  have h' : tDc wi g tt tk tv (own.map (·.2)) σ H (fun x H1 => gName i x σ H1 D.nx) := h
  refine wpAny_bind (thn (dc_core (Qf := fun _ z => SP X pins D .next z) hc hN I hi ok hg ht hk he hs h' fun L C z m H' I' q hn f => ?_) fun _ z hq => wpAny_pure (wpAny_pure hq))
  show wpAny _ _ (assign (.Name y py) X.env (.ref L)) _ _ _
  refine wpAny_assign_Name (store_ok2 (v := V.ref L) I' hN hy (.inl hyl) rfl (fun z2 I2 ⟨a, sb, ha⟩ => ?_) (.inr hyl))
  obtain ⟨f0, f1, f2, f3, f4, f5⟩ := f
  have haC : C ≠ a := by
    rcases ha with e | e
    · exact e ▸ f1
    · exact fun e' => f4 y a e e'.symm
  exact ⟨m, hn.sameBut sb haC, fun h3 sb3 => ⟨_, H', I2.turned (t' := z2.toks) (fun b o hb e => (sb3.2 b hb).trans e) f0 f1 f3 f4 f5, q⟩⟩
theorem sw_trueD {kx vx : Expr} {gs : List Comprehension} {scope : Scope} {pos py : Pos} {y : Str} {l : Nat} {env : Env} (hk : env.scope.kind = .function) (hy : env.scope.names.lookup y = some .local) (hl : (py.line == pos.line) = true)
    (ha : (scope.names.any fun (n, k) => n == y && (k == .local || k == .cell)) = false) : swapsWith (.DictComp kx vx gs scope pos) (some (.Name y py)) l env = pure true := by
  have k1 : env.kindOf y = some .local := hy
  have k2 : env.blockKind = .function := by
    unfold Env.blockKind
    rw [hk]
    rfl
  unfold swapsWith
  simp only [k2, k1, ha, Expr.pos, hl]
  rfl
end
/-! ### xs != [] -/
def rNeNil (K : PySem.W.Frag) : R2 := fun x y H Q => ∃ a b xs, x = .ref a ∧ y = .ref b ∧ SqL K H a xs ∧ SqL K H b [] ∧ Q (.bl (!xs.isEmpty)) H
theorem op_ne_nil {X : Cx} (hu : X.A.units < cLine) : OpR X (compareOp .NotEq) (rNeNil X.K) := by
  intro pins s σ H x y v u Q I rx ry h
  obtain ⟨a, b, xs, rfl, rfl, ha, hb, q⟩ := h
  cases rx
  cases ry
  obtain ⟨i1, r1, p1, _⟩ := I.list ha
  obtain ⟨i2, r2, p2, _⟩ := I.list hb
  cases r2
  cases r1 with
  | nil => exact SeqAt.RcNeAt.lists (e := fun _ => true) p1.isList p2.isList rfl hu (fun j h1 _ => absurd h1 (by simp)) X.prog X.w _ _ ⟨.bl false, H, I, rfl, q⟩
  | cons r rr => exact SeqAt.RcNeAt.lists_lengths p1.isList p2.isList (by simp) hu X.prog X.w _ _ ⟨.bl true, H, I, rfl, q⟩
end Nf

set_option Elab.async false
set_option linter.all false
set_option maxRecDepth 100000
namespace Nf
open PySem L2
/-! ### a while with a ghost that falls -/
theorem while_g {α : Type} {c : TT} {tb : TS} {D : Ends} {σ : L2.St} {H : Hp} (Pv : α → L2.St → Hp → Prop) (μ : α → Nat) (x0 : α) (h0 : Pv x0 σ H)
    (hs : ∀ x σ H, Pv x σ H → c σ H fun b H1 => if b = true then ∃ N : L2.St → Hp → Prop, (∀ σ' H', N σ' H' → ∃ m', m' < μ x ∧ ∃ y, μ y = m' ∧ Pv y σ' H') ∧ tb { D with nx := N, ct := N, bk := D.nx } σ H1 else D.nx σ H1) : tWhile c tb D σ H := by
  refine ⟨fun m σ H => ∃ x, μ x = m ∧ Pv x σ H, ⟨_, x0, rfl, h0⟩, ?_⟩
  rintro m σ H ⟨x, rfl, p⟩
  exact hs x σ H p
theorem seq_in {t1 t2 : TS} {D : Ends} {σ : L2.St} {H : Hp} (h : t1 { D with nx := t2 D } σ H) : tSeq t1 t2 D σ H := h
theorem next_in {D : Ends} {σ : L2.St} {H : Hp} (h : D.nx σ H) : tNext D σ H := h
theorem stp_g {α : Type} {tb : TS} {D : Ends} {σ : L2.St} {H1 : Hp} {Pv : α → L2.St → Hp → Prop} {μ : α → Nat} {x : α}
    (h : tb { D with nx := fun σ' H' => ∃ y, μ y < μ x ∧ Pv y σ' H', ct := fun σ' H' => ∃ y, μ y < μ x ∧ Pv y σ' H', bk := D.nx } σ H1) :
    ∃ N : L2.St → Hp → Prop, (∀ σ' H', N σ' H' → ∃ m', m' < μ x ∧ ∃ y, μ y = m' ∧ Pv y σ' H') ∧ tb { D with nx := N, ct := N, bk := D.nx } σ H1 :=
  ⟨_, fun _ _ ⟨y, h1, h2⟩ => ⟨μ y, h1, y, rfl, h2⟩, h⟩
/-! ### nodes -/
abbrev Nd := List Int × Say
mutual
def Say.nod (p : List Int) : Say → List Nd
  | .name x => [(p, .name x)]
  | .skip => [(p, .skip)]
  | .app c w ps => (p, .app c w ps) :: Say.nodA p 0 ps
  | .two c a b => (p, .two c a b) :: (Say.nod (p ++ [0]) a ++ Say.nod (p ++ [1]) b)
def Say.nodA (p : List Int) (k : Nat) : List Say → List Nd
  | [] => []
  | s :: r => Say.nod (p ++ [(k : Int)]) s ++ Say.nodA p (k + 1) r
end
/-- the parts with their paths -/
def kids (p : List Int) : Nat → List Say → List Nd
  | _, [] => []
  | k, s :: r => (p ++ [(k : Int)], s) :: kids p (k + 1) r
def ndAll (st : List Nd) : List Nd := st.flatMap fun q => q.2.nod q.1
theorem nodA_kids (p : List Int) : ∀ (k : Nat) (ps : List Say), Say.nodA p k ps = ndAll (kids p k ps)
  | _, [] => by simp [Say.nodA, kids, ndAll]
  | k, s :: r => by
    simp only [Say.nodA, kids, ndAll, List.flatMap_cons]
    rw [nodA_kids p (k + 1) r]
    rfl
theorem nod_eq (p : List Int) (s : Say) : s.nod p = (p, s) :: ndAll (kids p 0 s.parts) := by
  cases s with
  | name x => simp [Say.nod, Say.parts, kids, ndAll]
  | skip => simp [Say.nod, Say.parts, kids, ndAll]
  | app c w ps => simp only [Say.nod, Say.parts, nodA_kids]
  | two c a b => simp [Say.nod, Say.parts, kids, ndAll]
theorem ndAll_cons {q : Nd} {r : List Nd} : ndAll (q :: r) = q :: ndAll (kids q.1 0 q.2.parts ++ r) := by
  show q.2.nod q.1 ++ ndAll r = _
  rw [nod_eq]
  unfold ndAll
  rw [List.flatMap_append]
  rfl
theorem kids_len (p : List Int) : ∀ (k : Nat) (ps : List Say), (kids p k ps).length = ps.length
  | _, [] => rfl
  | k, _ :: r => by simp only [kids, List.length_cons, kids_len p (k + 1) r]
theorem kids_get (p : List Int) : ∀ (k : Nat) (ps : List Say) (i : Nat), (kids p k ps)[i]? = (ps[i]?).map fun s => (p ++ [((k + i : Nat) : Int)], s)
  | _, [], i => by simp [kids]
  | k, s :: r, 0 => by simp [kids]
  | k, s :: r, i + 1 => by
    simp only [kids, List.getElem?_cons_succ, kids_get p (k + 1) r i]
    rw [show k + 1 + i = k + (i + 1) by omega]
theorem kids_mem {p : List Int} {k : Nat} {ps : List Say} {q : Nd} (h : q ∈ kids p k ps) : q.2 ∈ ps := by
  obtain ⟨i, hi⟩ := List.getElem?_of_mem h
  rw [kids_get] at hi
  obtain ⟨s, hs, rfl⟩ := Option.map_eq_some_iff.mp hi
  exact List.mem_of_getElem? hs
def ndDa (q : Nd) : Da := .tup [.tup (q.1.map Da.int), q.2.da]
def ndsDa (l : List Nd) : Da := .tup (l.map ndDa)
theorem is_nd {H : Hp} {v : V} {q : Nd} (h : Is H v (ndDa q)) : ∃ a b y xs, v = .ref a ∧ H a = some (.tup [.ref b, y]) ∧ H b = some (.tup xs) ∧ IsA H xs (q.1.map Da.int) ∧ Is H y q.2.da := by
  cases h with
  | @tup a xs _ h1 h2 =>
    cases h2 with
    | cons p1 q1 =>
      cases q1 with
      | cons p2 q2 =>
        cases q2
        cases p1 with
        | tup h3 h4 => exact ⟨a, _, _, _, rfl, h1, h3, h4, p2⟩
/-- how many nodes a saying has, told by its depth -/
theorem nod_len {f : Str → Prop} : ∀ {n : Nat} {s : Say} (p : List Int), Say.ok f n s → (s.nod p).length ≤ 4 ^ n
  | 0, _, _, h => h.elim
  | n + 1, s, p, h => by
    rw [nod_eq, List.length_cons]
    have h3 := Say.parts_le h
    have ho := Say.ok_parts h
    have key : ∀ (k : Nat) (ps : List Say), (∀ q ∈ ps, Say.ok f n q) → (ndAll (kids p k ps)).length ≤ ps.length * 4 ^ n := by
      intro k ps
      induction ps generalizing k with
      | nil => intro _; simp [kids, ndAll]
      | cons s r ih =>
        intro hq
        have e : ndAll (kids p k (s :: r)) = s.nod (p ++ [(k : Int)]) ++ ndAll (kids p (k + 1) r) := rfl
        rw [e, List.length_append, List.length_cons, Nat.succ_mul]
        have h1 := nod_len (p ++ [(k : Int)]) (hq s (by simp))
        have h2 := ih (k + 1) fun q hm => hq q (by simp [hm])
        omega
    have h1 := key 0 s.parts ho
    have h2 : s.parts.length * 4 ^ n ≤ 3 * 4 ^ n := Nat.mul_le_mul_right _ h3
    have h4 : 0 < 4 ^ n := Nat.pow_pos (by decide)
    rw [Nat.pow_succ]
    omega
/-- paths are no longer than the depth -/
theorem nod_dep {f : Str → Prop} : ∀ {n : Nat} {s : Say} (p : List Int), Say.ok f n s → ∀ q ∈ s.nod p, q.1.length < p.length + n ∧ Say.ok f n q.2
  | 0, _, _, h => h.elim
  | n + 1, s, p, h => by
    rw [nod_eq]
    intro q hq
    rcases List.mem_cons.mp hq with rfl | hq
    · exact ⟨by show p.length < p.length + (n + 1); omega, h⟩
    · unfold ndAll at hq
      obtain ⟨z, hz, hqz⟩ := List.mem_flatMap.mp hq
      have ho := Say.ok_parts h z.2 (kids_mem hz)
      obtain ⟨i, hi⟩ := List.getElem?_of_mem hz
      rw [kids_get] at hi
      obtain ⟨s', _, rfl⟩ := Option.map_eq_some_iff.mp hi
      have := nod_dep (n := n) _ ho q hqz
      rw [List.length_append] at this
      exact ⟨by have := this.1; simp at this; omega, Say.ok_mono (by omega) this.2⟩
theorem nds_dep {f : Str → Prop} {n : Nat} {s : Say} (h : Say.ok f n s) (hn : n ≤ 8) : Da.dep (2 * n + 4) (ndsDa (s.nod [])) := by
  unfold ndsDa
  refine ⟨?_, fun d hd => ?_⟩
  · rw [List.length_map]
    have h1 := nod_len [] h
    have h2 : 4 ^ n ≤ 4 ^ 8 := Nat.pow_le_pow_right (by decide) hn
    have h3 : 4 ^ 8 = 65536 := by decide
    omega
  · obtain ⟨q, hq, rfl⟩ := List.mem_map.mp hd
    obtain ⟨h1, h2⟩ := nod_dep [] h q hq
    refine ⟨by simp, fun d hd => ?_⟩
    simp at hd
    rcases hd with rfl | rfl
    · refine ⟨by rw [List.length_map]; simp at h1; omega, fun d hd => ?_⟩
      obtain ⟨i, _, rfl⟩ := List.mem_map.mp hd
      exact True.intro
    · exact Say.dep h2
/-! ### names, each once -/
def uadd (acc : List Str) (x : Str) : List Str := if x ∈ acc then acc else acc ++ [x]
def nmOf (q : Nd) : Option Str := match q.2 with
  | .name x => some x
  | _ => none
def ustep (acc : List Str) (q : Nd) : List Str := match nmOf q with
  | some x => uadd acc x
  | none => acc
def unames (l : List Nd) : List Str := l.foldl ustep []
theorem uadd_len (acc : List Str) (x : Str) : (uadd acc x).length ≤ acc.length + 1 := by
  unfold uadd
  split
  · omega
  · simp
theorem ustep_len (acc : List Str) (q : Nd) : (ustep acc q).length ≤ acc.length + 1 := by
  unfold ustep
  split
  · exact uadd_len _ _
  · omega
theorem unames_take {l : List Nd} {i : Nat} {q : Nd} (h : l[i]? = some q) : unames (l.take (i + 1)) = ustep (unames (l.take i)) q := by
  unfold unames
  rw [List.take_add_one, h]
  show List.foldl ustep [] (List.take i l ++ [q]) = _
  rw [List.foldl_append]
  rfl
theorem unames_len (l : List Nd) : (unames l).length ≤ l.length := by
  have key : ∀ (l : List Nd) (acc : List Str), (l.foldl ustep acc).length ≤ acc.length + l.length := by
    intro l
    induction l with
    | nil => intro acc; simp
    | cons q r ih =>
      intro acc
      have h1 := ih (ustep acc q)
      have h2 := ustep_len acc q
      simp only [List.foldl_cons, List.length_cons]
      omega
  have := key l []
  simpa [unames] using this
def strsDa (xs : List Str) : Da := .tup (xs.map Da.str)
theorem isA_strs {H : Hp} : ∀ xs : List Str, IsA H (xs.map V.str) (xs.map Da.str)
  | [] => .nil
  | x :: r => .cons (.str x) (isA_strs r)
theorem isA_ints {H : Hp} : ∀ xs : List Int, IsA H (xs.map V.int) (xs.map Da.int)
  | [] => .nil
  | x :: r => .cons (.int x) (isA_ints r)
theorem ints_of {H : Hp} : ∀ {vs : List V} {xs : List Int}, IsA H vs (xs.map Da.int) → vs = xs.map V.int
  | _, [], h => by cases h; rfl
  | _, x :: r, h => by
    cases h with
    | cons a b => cases a; rw [ints_of b]; rfl
theorem IsA.snoc_inv {H : Hp} : ∀ {ws : List V} {ds : List Da} {d : Da}, IsA H ws (ds ++ [d]) → ∃ ws0 w, ws = ws0 ++ [w] ∧ IsA H ws0 ds ∧ Is H w d
  | _, [], d, h => by
    cases h with
    | cons a b => cases b; exact ⟨[], _, rfl, .nil, a⟩
  | _, e :: r, d, h => by
    cases h with
    | @cons v vs _ _ a b =>
      obtain ⟨ws0, w, rfl, h1, h2⟩ := IsA.snoc_inv (ds := r) b
      exact ⟨v :: ws0, w, rfl, .cons a h1, h2⟩
theorem IsA.rev {H : Hp} : ∀ {ws : List V} {ds : List Da}, IsA H ws ds → IsA H ws.reverse ds.reverse
  | _, _, .nil => .nil
  | _, _, .cons a b => by
    rw [List.reverse_cons, List.reverse_cons]
    exact (IsA.rev b).app (.cons a .nil)
theorem ndAll_ge : ∀ st : List Nd, st.length ≤ (ndAll st).length
  | [] => Nat.zero_le _
  | q :: r => by
    have := ndAll_ge r
    have e : ndAll (q :: r) = q.2.nod q.1 ++ ndAll r := rfl
    rw [e, nod_eq, List.length_append, List.length_cons, List.length_cons]
    omega
def keyT (x : Str) : Key × V := (Sum.inr x, .bl true)
theorem put_keyT (us : List Str) (x : Str) : putK (us.map keyT) (Sum.inr x) (.bl true) = (uadd us x).map keyT := by
  have e1 : ((us.map keyT).any fun kv => decide (kv.1 = (Sum.inr x : Key))) = decide (x ∈ us) := by
    induction us with
    | nil => rfl
    | cons y r ih =>
      rw [List.map_cons, List.any_cons, ih]
      have e2 : decide ((keyT y).1 = (Sum.inr x : Key)) = decide (y = x) := by
        show decide ((Sum.inr y : Key) = Sum.inr x) = _
        exact key_rr y x
      rw [e2]
      by_cases h : y = x
      · subst h; simp
      · have h' : ¬ x = y := fun z => h z.symm
        simp [h, h']
  unfold putK uadd
  rw [e1]
  by_cases h : x ∈ us
  · rw [if_pos h, if_pos (decide_eq_true h), List.map_map]
    refine List.map_congr_left fun y _ => ?_
    show (if (keyT y).1 = (Sum.inr x : Key) then ((keyT y).1, V.bl true) else keyT y) = keyT y
    split <;> rfl
  · rw [if_neg h, if_neg (by simpa using h), List.map_append]
    rfl
end Nf

set_option Elab.async false
set_option linter.all false
set_option maxRecDepth 100000
namespace Nf
open PySem PySem.Spec PyProof.Rows L2
/-! ### list(zip(t, u)) of two tuples of one length -/
theorem zip_len_none : typeLookup (.type "zip") "__len__" = pure none := am_miss_of_fast (by decide +kernel)
theorem zip_hint_none : typeLookup (.type "zip") "__length_hint__" = pure none := am_miss_of_fast (by decide +kernel)
section
variable {prog : Program} {w : World} {A : Around} {E : Value → Shared → Prop} {s : Shared}
/-- next, while the pair given out before is still there -/
theorem zt_item {z TI TO T i j t u : Addr} {f : Bool} {oT : Obj} {k : Nat} {xs ys : Array Value} {x y : Value} {Q : Option Value → Shared → Prop} (D : ZipApart z TI TO i j t u)
    (hz : IsZipHeld s.heap z TI TO T f) (hT : s.heap.get? T = some oT) (hTI : IsPair s.heap TI (.ref i) (.ref j))
    (hi : s.heap.IsTupleIter i t k) (hj : s.heap.IsTupleIter j u k) (ht : s.heap.IsTuple t xs) (hu : s.heap.IsTuple u ys) (hx : xs[k]? = some x) (hy : ys[k]? = some y)
    (hQ : ∀ g, IsZipHeld g z TI TO T true → g.IsTupleIter i t (k + 1) → g.IsTupleIter j u (k + 1) → IsPair g s.heap.objs.size x y → g.objs.size = s.heap.objs.size + 1 →
      (∀ c o, c ≠ z → c ≠ i → c ≠ j → s.heap.get? c = some o → g.get? c = some o) → Q (some (.ref s.heap.objs.size)) { s with heap := g }) :
    wpAny (model prog w) A (pyNext (.ref z)) Q E s := by
  have ty : s.TypeIs (.ref z) "zip" := ⟨_, hz, rfl⟩
  unfold pyNext
  refine wpAny_bind (wpAny_attempt ?_)
  refine wpAny_callSpecial?_slot (name := Str.ofString "__next__") ty F.slot_zip_next ?_
  refine wpAny_call_entry F.slot_zip_next ty F.entry_zip_next ?_ (F.args_zip_next_1 _)
  show wpAny _ _ (field (.ref z) 2 >>= _) _ _ s
  refine wpAny_bind (wpAny_field hz rfl (x := .bool false) rfl ?_)
  show wpAny _ _ (field (.ref z) 3 >>= _) _ _ s
  refine wpAny_bind (wpAny_field hz rfl (x := .ref TI) rfl (wpAny_bind (wpAny_seqItems hTI rfl ?_)))
  show wpAny _ _ (Builtin.SmallTypes.ownedTupleIsFree (.ref z) >>= _) _ _ s
  refine wpAny_bind (wpAny_tupleHeld_zip hz hT fun g1 z1 s1 => ?_)
  simp only [Bool.false_eq_true, if_false]
  refine wpAny_bind ?_
  rw [← Array.forIn_toList]
  simp only [List.forIn_cons, List.forIn_nil]
  refine wpAny_bind (wpAny_bind (wpAny_holding ?_))
  show wpAny _ _ (Builtin.SmallTypes.nextOf (.ref i) >>= _) _ _ _
  refine wpAny_bind (wpAny_nextOf_tuple_item (s := { s with heap := g1 }) (hi.extBut s1.extBut D.i1z) (ht.extBut s1.extBut D.l1z) hx fun g2 i2 s2 => wpAny_pure (wpAny_pure ?_))
  refine wpAny_bind (wpAny_bind (wpAny_holding ?_))
  show wpAny _ _ (Builtin.SmallTypes.nextOf (.ref j) >>= _) _ _ _
  refine wpAny_bind (wpAny_nextOf_tuple_item (s := { s with heap := g2 }) ((hj.extBut s1.extBut D.i2z).extBut s2.extBut D.i12.symm) ((hu.extBut s1.extBut D.l2z).extBut s2.extBut D.l2i1) hy fun g3 j3 s3 => wpAny_pure (wpAny_pure (wpAny_pure ?_)))
  show wpAny _ _ (newTuple [x, y] >>= _) _ _ _
  refine wpAny_bind (wpAny_newTuple (wpAny_pure ⟨_, rfl, wpAny_pure ?_⟩))
  have sz : g3.objs.size = s.heap.objs.size := by rw [s3.1, s2.1, s1.1]
  have z3 : IsZipHeld g3 z TI TO T true := s3.extBut _ _ D.i2z.symm (s2.extBut _ _ D.i1z.symm z1)
  have kp : ∀ c o, c ≠ z → c ≠ i → c ≠ j → s.heap.get? c = some o → g3.get? c = some o := fun c o n1 n2 n3 e => s3.extBut _ _ n3 (s2.extBut _ _ n2 (s1.extBut _ _ n1 e))
  have i3 : g3.IsTupleIter i t (k + 1) := i2.extBut s3.extBut D.i12
  show Q (some (.ref g3.objs.size)) _
  have pr : IsPair (g3.push { cls := .type "tuple", data := .seq #[x, y] }) g3.objs.size x y := Heap.get?_push_size _ rfl
  have sz4 : (g3.push { cls := .type "tuple", data := .seq #[x, y] }).objs.size = g3.objs.size + 1 := Heap.size_push ..
  rw [sz] at pr sz4 ⊢
  exact hQ _ (Heap.get?_push_of_some _ z3) (i3.at fun o e => Heap.get?_push_of_some _ e) (j3.at fun o e => Heap.get?_push_of_some _ e) pr sz4
    fun c o n1 n2 n3 e => Heap.get?_push_of_some _ (kp c o n1 n2 n3 e)
theorem zt_end {z TI TO T i j t u : Addr} {f : Bool} {oT : Obj} {k : Nat} {xs : Array Value} {Q : Option Value → Shared → Prop} (hh : A.handled = none) (D : ZipApart z TI TO i j t u)
    (hz : IsZipHeld s.heap z TI TO T f) (hT : s.heap.get? T = some oT) (hTI : IsPair s.heap TI (.ref i) (.ref j))
    (hi : s.heap.IsTupleIter i t k) (ht : s.heap.IsTuple t xs) (hx : xs[k]? = none)
    (hQ : ∀ g, (∀ c o, c ≠ z → c ≠ i → c ≠ j → s.heap.get? c = some o → g.get? c = some o) → Q none { s with heap := g }) :
    wpAny (model prog w) A (pyNext (.ref z)) Q E s := by
  have ty : s.TypeIs (.ref z) "zip" := ⟨_, hz, rfl⟩
  unfold pyNext
  refine wpAny_bind (wpAny_attempt ?_)
  refine wpAny_callSpecial?_slot (name := Str.ofString "__next__") ty F.slot_zip_next ?_
  refine wpAny_call_entry F.slot_zip_next ty F.entry_zip_next ?_ (F.args_zip_next_1 _)
  show wpAny _ _ (field (.ref z) 2 >>= _) _ _ s
  refine wpAny_bind (wpAny_field hz rfl (x := .bool false) rfl ?_)
  show wpAny _ _ (field (.ref z) 3 >>= _) _ _ s
  refine wpAny_bind (wpAny_field hz rfl (x := .ref TI) rfl (wpAny_bind (wpAny_seqItems hTI rfl ?_)))
  show wpAny _ _ (Builtin.SmallTypes.ownedTupleIsFree (.ref z) >>= _) _ _ s
  refine wpAny_bind (wpAny_tupleHeld_zip hz hT fun g1 z1 s1 => ?_)
  simp only [Bool.false_eq_true, if_false]
  refine wpAny_bind ?_
  rw [← Array.forIn_toList]
  simp only [List.forIn_cons, List.forIn_nil]
  refine wpAny_bind (wpAny_bind (wpAny_holding ?_))
  show wpAny _ _ (Builtin.SmallTypes.nextOf (.ref i) >>= _) _ _ _
  refine wpAny_bind (wpAny_nextOf_tuple_end (s := { s with heap := g1 }) hh (hi.extBut s1.extBut D.i1z) (ht.extBut s1.extBut D.l1z) hx fun g2 e s2 he => ?_)
  obtain ⟨oz, hoz, hcz⟩ := he
  exact wpAny_bind (wpAny_isInstance (T := "StopIteration") (b := true) ⟨oz, hoz, hcz⟩ isSubtype_stop (wpAny_pure (hQ _ fun c o n1 n2 _ q => s2 _ _ n2 (s1.extBut _ _ n1 q))))
/-- the zip between two turns of the loop that fills the list S -/
structure ZSt (xs ys : Array Value) (z TI TO i j t u S : Addr) (k : Nat) (h : Heap) : Prop where
  st : (IsZip h z TI TO .none ∧ ∃ a b, IsPair h TO a b) ∨ ∃ T f oT, IsZipHeld h z TI TO T f ∧ h.get? T = some oT ∧ T ≠ z ∧ T ≠ i ∧ T ≠ j ∧ T ≠ S
  ti : IsPair h TI (.ref i) (.ref j)
  hi : h.IsTupleIter i t k
  hj : h.IsTupleIter j u k
  ht : h.IsTuple t xs
  hu : h.IsTuple u ys
structure ZG (xs ys : Array Value) (S : Addr) (h : Heap) (as : List Addr) : Prop where
  rise : as.Pairwise (· < ·)
  above : ∀ a ∈ as, S < a
  pairs : ∀ (m : Nat) (a : Addr), as[m]? = some a → ∃ x y, xs[m]? = some x ∧ ys[m]? = some y ∧ h.get? a = some { cls := .type "tuple", data := .seq #[x, y] }
theorem ZSt.up {xs ys : Array Value} {z TI TO i j t u S : Addr} {k : Nat} {h h' : Heap} (Z : ZSt xs ys z TI TO i j t u S k h) (nz : ∀ b ∈ [z, TI, TO, i, j, t, u], b ≠ S) (hk : ∀ b o, b ≠ S → h.get? b = some o → h'.get? b = some o) : ZSt xs ys z TI TO i j t u S k h' := by
  have n := fun b (hb : b ∈ [z, TI, TO, i, j, t, u]) => nz b hb
  refine ⟨?_, hk _ _ (n TI (by simp)) Z.ti, Z.hi.at fun o e => hk _ _ (n i (by simp)) e, Z.hj.at fun o e => hk _ _ (n j (by simp)) e, Z.ht.at fun o e => hk _ _ (n t (by simp)) e, Z.hu.at fun o e => hk _ _ (n u (by simp)) e⟩
  rcases Z.st with ⟨a, b, c, d⟩ | ⟨T, f, oT, a, b, c, d, e, g⟩
  · exact .inl ⟨hk _ _ (n z (by simp)) a, b, c, hk _ _ (n TO (by simp)) d⟩
  · exact .inr ⟨T, f, oT, hk _ _ (n z (by simp)) a, hk _ _ g b, c, d, e, g⟩
theorem zs_item {xs ys : Array Value} {z TI TO i j t u S : Addr} {k : Nat} {x y : Value} {Q : Option Value → Shared → Prop} (D : ZipApart z TI TO i j t u) (Z : ZSt xs ys z TI TO i j t u S k s.heap) (hS : S < s.heap.objs.size)
    (hlt : ∀ b ∈ [z, i, j], b < s.heap.objs.size) (hti : TI ≠ TO) (hx : xs[k]? = some x) (hy : ys[k]? = some y)
    (hQ : ∀ g, ZSt xs ys z TI TO i j t u S (k + 1) g → IsPair g s.heap.objs.size x y → g.objs.size = s.heap.objs.size + 1 →
      (∀ c o, c ≠ z → c ≠ TO → c ≠ i → c ≠ j → s.heap.get? c = some o → g.get? c = some o) → Q (some (.ref s.heap.objs.size)) { s with heap := g }) :
    wpAny (model prog w) A (pyNext (.ref z)) Q E s := by
  have nb : ∀ b ∈ [z, i, j], s.heap.objs.size ≠ b := fun b hb => Nat.ne_of_gt (hlt b hb)
  rcases Z.st with ⟨hz, a, b, hTO⟩ | ⟨T, f, oT, hz, hT, n1, n2, n3, n4⟩
  · refine RZ.pyNext_zipT_item D hz Z.ti hTO Z.hi Z.hj Z.ht Z.hu hx hy fun g z' TO' i' j' hT hsz hk => hQ g ⟨.inr ⟨_, false, _, z', hT, nb z (by simp), nb i (by simp), nb j (by simp), Nat.ne_of_gt hS⟩, ?_, i', j', ?_, ?_⟩ hT hsz hk
    · exact hk _ _ D.TIz D.TITO D.TIi1 D.TIi2 Z.ti
    · exact Z.ht.at fun o e => hk _ _ D.l1z D.l1TO D.l1i1 D.l1i2 e
    · exact Z.hu.at fun o e => hk _ _ D.l2z D.l2TO D.l2i1 D.l2i2 e
  · refine zt_item D hz hT Z.ti Z.hi Z.hj Z.ht Z.hu hx hy fun g z' i' j' hT' hsz hk => hQ g ⟨.inr ⟨T, true, oT, z', hk _ _ n1 n2 n3 hT, n1, n2, n3, n4⟩, ?_, i', j', ?_, ?_⟩ hT' hsz fun c o c1 _ c3 c4 e => hk c o c1 c3 c4 e
    · exact hk _ _ D.TIz D.TIi1 D.TIi2 Z.ti
    · exact Z.ht.at fun o e => hk _ _ D.l1z D.l1i1 D.l1i2 e
    · exact Z.hu.at fun o e => hk _ _ D.l2z D.l2i1 D.l2i2 e
theorem zs_end {xs ys : Array Value} {z TI TO i j t u S : Addr} {k : Nat} {Q : Option Value → Shared → Prop} (hh : A.handled = none) (D : ZipApart z TI TO i j t u) (Z : ZSt xs ys z TI TO i j t u S k s.heap) (hx : xs[k]? = none)
    (hQ : ∀ g, (∀ c o, c ≠ z → c ≠ TO → c ≠ i → c ≠ j → s.heap.get? c = some o → g.get? c = some o) → Q none { s with heap := g }) : wpAny (model prog w) A (pyNext (.ref z)) Q E s := by
  rcases Z.st with ⟨hz, a, b, hTO⟩ | ⟨T, f, oT, hz, hT, _⟩
  · exact RZ.pyNext_zipT_end hh D hz Z.ti hTO Z.hi Z.hj Z.ht Z.hu (.inl hx) hQ
  · exact zt_end hh D hz hT Z.ti Z.hi Z.ht hx fun g hk => hQ g fun c o c1 _ c3 c4 e => hk c o c1 c3 c4 e
end
section
variable {prog : Program} {w : World} {A : Around} {s : Shared} {R : Result → Shared → Prop} {xs ys : Array Value} {z TI TO i j t u S : Addr}
theorem zs_loop (hh : A.handled = none) (D : ZipApart z TI TO i j t u) (hlo : ∀ b ∈ [z, TI, TO, i, j, t, u], b < S) (hxy : xs.size = ys.size) (hn : xs.size ≤ sizeLine) (res : Value) {h0 : Heap}
    (hR : ∀ g tk acc c as, (∀ b o, b ≠ S → b ≠ z → b ≠ TO → b ≠ i → b ≠ j → h0.get? b = some o → g.get? b = some o) → g.get? S = some { cls := .type "list", dict := none, data := .seq acc c, slots := #[] } → as.length = xs.size → ZG xs ys S g as →
      acc.toList = as.map Value.ref → R (.ok (.ret res)) { s with heap := g, toks := tk }) :
    ∀ (n k : Nat) (h : Heap) (tk c : Nat) (acc : Array Value) (as : List Addr), xs.size - k = n → k ≤ xs.size → ZSt xs ys z TI TO i j t u S k h → (∀ b o, b ≠ S → b ≠ z → b ≠ TO → b ≠ i → b ≠ j → h0.get? b = some o → h.get? b = some o) →
      h.get? S = some { cls := .type "list", dict := none, data := .seq acc c, slots := #[] } → acc.toList = as.map Value.ref → as.length = k → ZG xs ys S h as →
      codeAny (model prog w) A (.builtin "list.extend.loop" ⟨[.ref S, .ref z, res], []⟩) R { s with heap := h, toks := tk } := by
  have nS : ∀ b ∈ [z, TI, TO, i, j, t, u], b ≠ S := fun b hb => Nat.ne_of_lt (hlo b hb)
  have zS := nS z (by simp)
  intro n
  induction n with
  | zero =>
    intro k h tk c acc as hnk hk Z kp hS hacc hal G
    refine codeAny_builtin F.entry_extend_loop ?_
    rw [Around.under_plainId F.plain_extend_loop _]
    show wpAny _ A.in1 (pyNext (.ref z) >>= _) _ _ _
    refine wpAny_bind (zs_end (s := { s with heap := h, toks := tk }) (A := A.in1) hh D Z (Array.getElem?_eq_none (by omega)) fun g hk' => ?_)
    have off : ∀ b o, S < b → h.get? b = some o → g.get? b = some o := fun b o hb e =>
      hk' b o (Nat.ne_of_gt (Nat.lt_trans (hlo z (by simp)) hb)) (Nat.ne_of_gt (Nat.lt_trans (hlo TO (by simp)) hb)) (Nat.ne_of_gt (Nat.lt_trans (hlo i (by simp)) hb)) (Nat.ne_of_gt (Nat.lt_trans (hlo j (by simp)) hb)) e
    refine wpAny_pure (hR g tk acc c as (fun b o b1 b2 b3 b4 b5 e => hk' b o b2 b3 b4 b5 (kp b o b1 b2 b3 b4 b5 e)) (hk' S _ (Ne.symm zS) (Ne.symm (nS TO (by simp))) (Ne.symm (nS i (by simp))) (Ne.symm (nS j (by simp))) hS) (by omega) ⟨G.rise, G.above, fun m a hm => ?_⟩ hacc)
    obtain ⟨x, y, e1, e2, e3⟩ := G.pairs m a hm
    exact ⟨x, y, e1, e2, off a _ (G.above a (List.mem_of_getElem? hm)) e3⟩
  | succ n ih =>
    intro k h tk c acc as hnk hk Z kp hS hacc hal G
    have hlt : k < xs.size := by omega
    have hx : xs[k]? = some xs[k] := by simp [hlt]
    have hy : ys[k]? = some (ys[k]'(by omega)) := by simp [show k < ys.size by omega]
    have hsz : acc.size = k := by rw [← Array.length_toList, hacc, List.length_map, hal]
    have hSl : S < h.objs.size := Heap.lt_size hS
    refine codeAny_builtin F.entry_extend_loop ?_
    rw [Around.under_plainId F.plain_extend_loop _]
    show wpAny _ A.in1 (pyNext (.ref z) >>= _) _ _ _
    refine wpAny_bind (zs_item (s := { s with heap := h, toks := tk }) D Z hSl (fun b hb => Nat.lt_trans (hlo b (by simp at hb ⊢; rcases hb with h | h | h <;> simp [h])) hSl) D.TITO hx hy fun g Z' hp hz hk' => ?_)
    dsimp only at hp hz hk' ⊢
    have hS' := hk' S _ (Ne.symm zS) (Ne.symm (nS TO (by simp))) (Ne.symm (nS i (by simp))) (Ne.symm (nS j (by simp))) hS
    have up : ∀ b o, b ≠ S → g.get? b = some o → (g.update S (Obj.mapSeq (·.push (Value.ref h.objs.size)))).get? b = some o := fun b o hb e => (Heap.get?_update_other _ _ (Ne.symm hb)).trans e
    have off : ∀ b o, S < b → h.get? b = some o → g.get? b = some o := fun b o hb e =>
      hk' b o (Nat.ne_of_gt (Nat.lt_trans (hlo z (by simp)) hb)) (Nat.ne_of_gt (Nat.lt_trans (hlo TO (by simp)) hb)) (Nat.ne_of_gt (Nat.lt_trans (hlo i (by simp)) hb)) (Nat.ne_of_gt (Nat.lt_trans (hlo j (by simp)) hb)) e
    have there : ∀ a ∈ as, a < h.objs.size := fun a ha => by
      obtain ⟨m, hm⟩ := List.mem_iff_getElem?.mp ha
      obtain ⟨_, _, _, _, e⟩ := G.pairs m a hm
      exact Heap.lt_size e
    show wpAny _ A.in1 (updateSeq S (·.push (Value.ref h.objs.size)) >>= _) _ _ _
    refine wpAny_bind ?_
    refine wpAny_updateSeq hS' rfl (wpAny_pure ⟨plainId_quiet F.plain_extend_loop _, ih (k + 1) _ tk _ (acc.push (Value.ref h.objs.size)) (as ++ [h.objs.size]) (by omega) hlt (Z'.up nS up)
      (fun b o b1 b2 b3 b4 b5 e => up b o b1 (hk' b o b2 b3 b4 b5 (kp b o b1 b2 b3 b4 b5 e))) (Heap.get?_update_self _ hS' rfl) (by rw [Array.toList_push, hacc, List.map_append]; rfl) (by rw [List.length_append, hal]; rfl) ⟨?_, ?_, ?_⟩⟩) (by rw [hsz]; omega) (by show (acc.push (Value.ref h.objs.size)).size ≤ sizeLine + 1; rw [Array.size_push, hsz]; omega)
    · refine List.pairwise_append.mpr ⟨G.rise, List.pairwise_singleton _ _, fun a ha b hb => ?_⟩
      exact List.mem_singleton.mp hb ▸ there a ha
    · intro a ha
      rcases List.mem_append.mp ha with ha | ha
      · exact G.above a ha
      · exact List.mem_singleton.mp ha ▸ hSl
    · intro m b hm
      by_cases h1 : m < as.length
      · rw [List.getElem?_append_left h1] at hm
        obtain ⟨x', y', e1, e2, e3⟩ := G.pairs m b hm
        have hb := G.above b (List.mem_of_getElem? hm)
        exact ⟨x', y', e1, e2, up b _ (Nat.ne_of_gt hb) (off b _ hb e3)⟩
      · rw [List.getElem?_append_right (by omega)] at hm
        have h2 : m - as.length = 0 := by
          have := (List.getElem?_eq_some_iff.mp hm).1
          simp at this
          omega
        have h3 : m = k := by omega
        rw [h2] at hm
        have hb : h.objs.size = b := by simpa using hm
        subst hb h3
        exact ⟨_, _, hx, hy, up _ _ (Nat.ne_of_gt hSl) hp⟩
theorem zs_extend (hh : A.handled = none) (D : ZipApart z TI TO i j t u) (hlo : ∀ b ∈ [z, TI, TO, i, j, t, u], b < S) (hxy : xs.size = ys.size) (hn : xs.size ≤ sizeLine) (res : Value) (c0 : Nat)
    (Z : ZSt xs ys z TI TO i j t u S 0 s.heap) (hz : IsZip s.heap z TI TO .none) (hS : s.heap.get? S = some { cls := .type "list", data := .seq #[] c0 })
    (hR : ∀ g tk acc c as, (∀ b o, b ≠ S → b ≠ z → b ≠ TO → b ≠ i → b ≠ j → s.heap.get? b = some o → g.get? b = some o) → g.get? S = some { cls := .type "list", dict := none, data := .seq acc c, slots := #[] } → as.length = xs.size → ZG xs ys S g as →
      acc.toList = as.map Value.ref → R (.ok (.ret res)) { s with heap := g, toks := tk }) :
    wpAny (model prog w) A.in1 (Builtin.List.listExtendWith (.ref S) (.ref z) res)
      (fun fin q => match fin with | .done f => R (.ok f) q | .again c => c.quiet = true ∧ codeAny (model prog w) A c R q) (fun e q => R (.error e) q) s := by
  have nS : ∀ b ∈ [z, TI, TO, i, j, t, u], b ≠ S := fun b hb => Nat.ne_of_lt (hlo b hb)
  have hSz : S ≠ z := Ne.symm (nS z (by simp))
  have ty : s.TypeIs (.ref z) "zip" := ⟨_, hz, rfl⟩
  unfold Builtin.List.listExtendWith
  refine wpAny_bind (wpAny_typeOf ty ?_)
  have b1 : Builtin.List.listSameRef (.ref S) (.ref z) = false := by simp [Builtin.List.listSameRef, hSz]
  have b2 : (Value.type "zip" == Value.type "list") = false := by decide
  have b3 : (Value.type "zip" == Value.type "tuple") = false := by decide
  simp only [b1, b2, b3, Bool.or_false, Bool.false_eq_true, if_false]
  refine wpAny_bind (wpAny_pyIter_zip hz ?_)
  refine wpAny_bind (wpAny_holding ?_)
  unfold Builtin.List.listLengthHint
  refine wpAny_bind (wpAny_specialOf ty zip_len_none ?_)
  show wpAny _ A.in1 (specialOf (Value.ref z) (Str.ofString "__length_hint__") >>= _) _ _ s
  refine wpAny_bind (wpAny_specialOf ty zip_hint_none (wpAny_pure ?_))
  show wpAny _ A.in1 (rule "list.extend.makes-room" >>= fun _ => Builtin.List.listTouch (.ref S) >>= fun _ =>
    again (.builtin "list.extend.loop" ⟨[.ref S, .ref z, res], []⟩)) _ _ s
  refine wpAny_bind (wpAny_rule (wpAny_bind ?_))
  show wpAny _ A.in1 (updateSeq S (·.push .none) >>= fun _ => updateSeq S (·.pop)) _ _ s
  refine wpAny_bind (wpAny_updateSeq hS rfl ?_)
  have S2 := Heap.get?_update_self (Obj.mapSeq (·.push Value.none)) hS rfl
  refine wpAny_updateSeq (hz := by seq_fits) S2 rfl ?_
  have S3 := Heap.get?_update_self (Obj.mapSeq (·.pop)) S2 rfl
  have oth : ∀ b o, b ≠ S → s.heap.get? b = some o → ((s.heap.update S (Obj.mapSeq (·.push Value.none))).update S (Obj.mapSeq (·.pop))).get? b = some o :=
    fun b o hb e => (Heap.get?_update_other _ _ (Ne.symm hb)).trans ((Heap.get?_update_other _ _ (Ne.symm hb)).trans e)
  refine wpAny_pure ⟨plainId_quiet F.plain_extend_loop _, zs_loop (h0 := s.heap) hh D hlo hxy hn res hR xs.size 0 _ s.toks _ #[] [] (Nat.sub_zero _) (Nat.zero_le _) (Z.up nS oth) (fun b o b1 _ _ _ _ e => oth b o b1 e) S3 rfl rfl ⟨List.Pairwise.nil, (fun _ ha => nomatch ha), (fun m a hm => by simp at hm)⟩⟩
theorem zs_init (hh : A.handled = none) (D : ZipApart z TI TO i j t u) (hlo : ∀ b ∈ [z, TI, TO, i, j, t, u], b < S) (hxy : xs.size = ys.size) (hn : xs.size ≤ sizeLine)
    (Z : ZSt xs ys z TI TO i j t u S 0 s.heap) (hz : IsZip s.heap z TI TO .none) (hS : s.heap.get? S = some { cls := .type "list", data := .seq #[] })
    (hR : ∀ g tk acc c as, (∀ b o, b ≠ S → b ≠ z → b ≠ TO → b ≠ i → b ≠ j → s.heap.get? b = some o → g.get? b = some o) → g.get? S = some { cls := .type "list", dict := none, data := .seq acc c, slots := #[] } → as.length = xs.size → ZG xs ys S g as →
      acc.toList = as.map Value.ref → R (.ok (.ret .none)) { s with heap := g, toks := tk }) :
    wpAny (model prog w) A.in1 (Builtin.«list.__init__» ⟨[.ref S, .ref z], []⟩)
      (fun fin q => match fin with | .done f => R (.ok f) q | .again c => c.quiet = true ∧ codeAny (model prog w) A c R q) (fun e q => R (.error e) q) s := by
  have nS : ∀ b ∈ [z, TI, TO, i, j, t, u], b ≠ S := fun b hb => Nat.ne_of_lt (hlo b hb)
  show wpAny _ A.in1 (do
    let old ← Builtin.List.listItems (.ref S)
    Builtin.List.listUpdate (.ref S) (fun _ => #[])
    letGo old.toList.reverse
    Builtin.List.listExtendWith (.ref S) (.ref z) .none) _ _ s
  refine wpAny_bind ?_
  unfold Builtin.List.listItems
  refine wpAny_bind (wpAny_seqItems hS rfl (wpAny_pure ?_))
  show wpAny _ A.in1 (updateSeq S (fun _ => #[]) >>= fun _ => letGo (#[] : Array Value).toList.reverse >>= fun _ => Builtin.List.listExtendWith (.ref S) (.ref z) .none) _ _ s
  refine wpAny_bind (wpAny_updateSeq hS rfl ?_)
  have S2 := Heap.get?_update_self (Obj.mapSeq (fun _ => (#[] : Array Value))) hS rfl
  have oth : ∀ b o, b ≠ S → s.heap.get? b = some o → (s.heap.update S (Obj.mapSeq (fun _ => (#[] : Array Value)))).get? b = some o := fun b o hb e => (Heap.get?_update_other _ _ (Ne.symm hb)).trans e
  refine wpAny_bind (wpAny_letGo ?_)
  exact zs_extend hh D hlo hxy hn .none _ (Z.up nS oth) (oth _ _ (nS z (by simp)) hz) S2 fun g tk acc c as hk hS' hl hG hacc => hR g tk acc c as (fun b o b1 b2 b3 b4 b5 e => hk b o b1 b2 b3 b4 b5 (oth b o b1 e)) hS' hl hG hacc
end
theorem call_list_zipT {prog : Program} {w : World} {A : Around} {E : Value → Shared → Prop} {s : Shared} {xs ys : Array Value} {z TI TO i j t u : Addr} {Q : Value → Shared → Prop}
    (hh : A.handled = none) (D : ZipApart z TI TO i j t u) (hlo : ∀ b ∈ [z, TI, TO, i, j, t, u], b < s.heap.objs.size) (hxy : xs.size = ys.size) (hn : xs.size ≤ sizeLine)
    (hz : IsZip s.heap z TI TO .none) (hti : IsPair s.heap TI (.ref i) (.ref j)) (hto : IsPair s.heap TO .none .none) (hi : s.heap.IsTupleIter i t 0) (hj : s.heap.IsTupleIter j u 0) (ht : s.heap.IsTuple t xs) (hu : s.heap.IsTuple u ys)
    (hQ : ∀ g tk acc c as, (∀ b o, b ≠ z → b ≠ TO → b ≠ i → b ≠ j → s.heap.get? b = some o → g.get? b = some o) → g.get? s.heap.objs.size = some { cls := .type "list", dict := none, data := .seq acc c, slots := #[] } → as.length = xs.size → ZG xs ys s.heap.objs.size g as →
      acc.toList = as.map Value.ref → Q (.ref s.heap.objs.size) { s with heap := g, toks := tk }) :
    wpAny (model prog w) A (call (.type "list") [.ref z]) Q E s := by
  refine callType_codes (Q₁ := fun obj q => obj = .ref s.heap.objs.size ∧ q = { s with heap := s.heap.push { cls := .type "list", data := .seq #[] } }) F.called_list (F.typeCall_list_1 _) F.entry_list_init
    (code_list_new _ ⟨rfl, rfl⟩) fun obj q hq => ?_
  obtain ⟨rfl, rfl⟩ := hq
  have hS : (s.heap.push { cls := .type "list", data := .seq #[] }).get? s.heap.objs.size = some { cls := .type "list", data := .seq #[] } := Heap.get?_push_size _ rfl
  have ps : ∀ b o, s.heap.get? b = some o → (s.heap.push { cls := .type "list", data := .seq #[] }).get? b = some o := fun b o e => Heap.get?_push_of_some _ e
  refine ⟨⟨_, hS, rfl⟩, F.args_list_init_2 _ _, ?_⟩
  refine zs_init (A := A.in1) hh D hlo hxy hn ⟨.inl ⟨ps _ _ hz, _, _, ps _ _ hto⟩, ps _ _ hti, hi.at fun o e => ps _ _ e, hj.at fun o e => ps _ _ e, ht.at fun o e => ps _ _ e, hu.at fun o e => ps _ _ e⟩ (ps _ _ hz) hS fun g tk acc c as hk hS' hl hG hacc => ?_
  exact ⟨rfl, hQ g tk acc c as (fun b o b2 b3 b4 b5 e => hk b o (Nat.ne_of_lt (Heap.lt_size e)) b2 b3 b4 b5 (ps _ _ e)) hS' hl hG hacc⟩
end Nf

set_option Elab.async false
set_option linter.all false
set_option maxRecDepth 100000
namespace Nf
open PySem PySem.Spec PyProof.Rows L2
/-! ### list(zip(t, u)): the rule -/
def putP : Hp → List Addr → List (V × V) → Hp
  | H, a :: as, p :: ps => putP (upd H a (.tup [p.1, p.2])) as ps
  | H, _, _ => H
theorem putP_off {b : Addr} : ∀ (as : List Addr) (ps : List (V × V)) (H : Hp), b ∉ as → putP H as ps b = H b
  | [], _, _, _ => rfl
  | _ :: _, [], _, _ => rfl
  | a :: as, p :: ps, H, h => by
    have h' : ¬ b = a ∧ b ∉ as := by simpa using h
    show putP (upd H a (.tup [p.1, p.2])) as ps b = H b
    rw [putP_off as ps _ h'.2, upd_ne h'.1]
abbrev PrR (H : Hp) (a : Addr) (p : V × V) : Prop := H a = some (.tup [p.1, p.2])
theorem putP_at : ∀ (as : List Addr) (ps : List (V × V)) (H : Hp), as.length = ps.length → as.Nodup → Paired (PrR (putP H as ps)) as ps
  | [], [], _, _, _ => .nil
  | [], _ :: _, _, h, _ => by cases h
  | _ :: _, [], _, h, _ => by cases h
  | a :: as, p :: ps, H, h, hn => by
    have hn' := List.nodup_cons.mp hn
    refine .cons ?_ (putP_at as ps (upd H a (.tup [p.1, p.2])) (Nat.succ.inj h) hn'.2)
    show putP (upd H a (.tup [p.1, p.2])) as ps a = some (.tup [p.1, p.2])
    rw [putP_off as ps _ hn'.1, upd_same]
theorem pairs_laid {X : Cx} {pins : List (Addr × Obj)} {σ : L2.St} {H : Hp} {s : Shared} {g : Heap} {tk : Nat} {xs ys : List V} {its1 its2 : List Value} {acc : Array Value} {c : Nat} {as : List Addr} {S : Addr}
    (I : Inv X pins σ H s) (hS0 : s.heap.objs.size ≤ S) (r1 : Vals xs its1) (r2 : Vals ys its2) (hl : xs.length = ys.length) (hz : xs.length ≤ sizeLine)
    (hk : ∀ b o, s.heap.get? b = some o → g.get? b = some o) (hS : g.get? S = some { cls := .type "list", dict := none, data := .seq acc c, slots := #[] })
    (has : as.length = its1.toArray.size) (G : ZG its1.toArray its2.toArray S g as) (hacc : acc.toList = as.map Value.ref) :
    ∃ H' : Hp, Same H H' ∧ H S = none ∧ H' S = some (.lst (as.map V.ref)) ∧ Paired (PrR H') as (xs.zip ys) ∧ Inv X pins σ H' { s with heap := g, toks := tk } := by
  have l1 : xs.length = its1.length := r1.length
  have l2 : ys.length = its2.length := r2.length
  have has' : as.length = xs.length := by rw [has, l1]; simp
  have lz : as.length = (xs.zip ys).length := by rw [List.length_zip]; omega
  have hSn : S ∉ as := fun z => Nat.lt_irrefl _ (G.above _ z)
  have nd : as.Nodup := List.Pairwise.imp (fun {a b} (h : a < b) => Nat.ne_of_lt h) G.rise
  have new : ∀ a ∈ as, H a = none := fun a ha => I.hok.fresh (Nat.le_trans hS0 (Nat.le_of_lt (G.above a ha)))
  have newS : H S = none := I.hok.fresh hS0
  have atP := putP_at as (xs.zip ys) (upd H S (.lst (as.map V.ref))) lz nd
  have off : ∀ b, b ∉ as → b ≠ S → putP (upd H S (.lst (as.map V.ref))) as (xs.zip ys) b = H b := fun b h1 h2 => by rw [putP_off as _ _ h1, upd_ne h2]
  have low : ∀ b o, s.heap.get? b = some o → b ∉ as ∧ b ≠ S := fun b o e =>
    ⟨fun z => absurd (Heap.lt_size e) (Nat.not_lt.mpr (Nat.le_trans hS0 (Nat.le_of_lt (G.above b z)))), Nat.ne_of_lt (Nat.lt_of_lt_of_le (Heap.lt_size e) hS0)⟩
  have kp : Same H (putP (upd H S (.lst (as.map V.ref))) as (xs.zip ys)) := fun b v e => by
    rw [off b (fun z => by rw [new b z] at e; cases e) (fun z => by rw [z, newS] at e; cases e)]
    exact e
  have eS : putP (upd H S (.lst (as.map V.ref))) as (xs.zip ys) S = some (.lst (as.map V.ref)) := by rw [putP_off as _ _ hSn, upd_same]
  refine ⟨putP (upd H S (.lst (as.map V.ref))) as (xs.zip ys), kp, newS, eS, atP, ?_⟩
  refine I.call' (ch := []) rfl ⟨fun b o q _ _ _ => hk b o q, fun b o q _ _ _ => ⟨o.slots, hk b o q⟩, fun b o q n _ => ?_, fun b o q _ => ⟨o, hk b o q⟩, fun b zs q => kp b _ q, fun b o v q => kp b _ q, fun b ps q => ⟨#[], by rw [kp b _ q]; simp⟩⟩
    (fun b v q => ?_) I.bare fun b z => by simp at z
  · obtain ⟨z1, z2⟩ := low b o q
    rw [off b z1 z2]
    exact n
  · by_cases hb : b ∈ as
    · obtain ⟨m, pk, e1, e2, e3⟩ := LiI.paired_ix atP hb
      have e3' : putP (upd H S (.lst (as.map V.ref))) as (xs.zip ys) b = some (.tup [pk.1, pk.2]) := e3
      rw [e3'] at q
      cases q
      obtain ⟨x, y, f1, f2, f3⟩ := G.pairs m b e1
      rw [List.getElem?_zip_eq_some] at e2
      obtain ⟨u1, g1, ru1⟩ := r1.get e2.1
      obtain ⟨u2, g2, ru2⟩ := r2.get e2.2
      have x1 : u1 = x := by
        have := f1.symm.trans (show its1.toArray[m]? = some u1 by simpa using g1)
        exact (Option.some.inj this).symm
      have y1 : u2 = y := by
        have := f2.symm.trans (show its2.toArray[m]? = some u2 by simpa using g2)
        exact (Option.some.inj this).symm
      subst x1 y1
      exact ⟨by show 2 ≤ sizeLine; decide, [u1, u2], .cons ru1 (.cons ru2 .nil), ⟨_, f3, rfl, _, rfl⟩⟩
    · by_cases hb2 : b = S
      · rw [hb2] at q ⊢
        rw [eS] at q
        cases q
        refine ⟨by rw [List.length_map]; omega, acc.toList, c, by rw [hacc]; exact LiI.vals_refs as, ?_⟩
        rw [Array.toArray_toList]
        exact hS
      · rw [off b hb hb2] at q
        exact (I.hok b v q).stay (fun d w _ y => hk d w y) (fun d y => kp d _ y) fun d zs y => kp d _ y
def tListZip (K : PySem.W.Frag) (ta : TA) : TE := fun σ H Q => ta σ H fun vs H1 => ∃ a b xs ys, vs = [.ref a, .ref b] ∧ SqT K H1 a xs ∧ SqT K H1 b ys ∧ xs.length = ys.length ∧
  ∀ (H' : Hp) (p : Addr) (ts : List Addr), Same H1 H' → H1 p = none → H' p = some (.lst (ts.map V.ref)) → Paired (PrR H') ts (xs.zip ys) → Q (.ref p) H'
theorem pe_listZip {X : Cx} {e e2 : Expr} {ta : TA} {p p2 pos pos2 : Pos} (hc : X.calm = true) (hg : Gl X "list") (hm : X.mg "list" = none) (hg2 : Gl X "zip") (hm2 : X.mg "zip" = none) (ha : PA X [e, e2] ta)
    (hs2 : starEach [e, e2] X.env = (false, eval e X.env) :: starEach [e2] X.env := by rfl) (hpl : (backTo pos2 (starEach [e2] X.env)).any (·.1) = false := by rfl)
    (hs : starEach [.Call (.Name "zip" p2) [e, e2] [] pos2] X.env = (false, eval (.Call (.Name "zip" p2) [e, e2] [] pos2) X.env) :: starEach [] X.env := by rfl) :
    PE X (.Call (.Name "list" p) [.Call (.Name "zip" p2) [e, e2] [] pos2] [] pos) (tListZip X.K ta) := by
  refine ⟨fun pins s σ H Q I h => ?_⟩
  refine Call_ (ld_blt I hg hm boot_list (PyProof.Rows.callWith_type1 ?_ hs rfl))
  rw [hs]
  show wpAny _ _ (spliced ((false, eval (.Call (.Name "zip" p2) [e, e2] [] pos2) X.env) :: backTo pos (starEach [] X.env))) _ _ s
  refine Calls.spliced_cons ?_
  refine Call_ (ld_blt I hg2 hm2 PyProof.Rows.boot_zip (PyProof.Rows.callWith_type1 (thn (ha.run pos2 pins s σ H _ I h) fun us s1 ⟨vs, H1, I1, r1, q1⟩ => ?_) hs2 hpl))
  obtain ⟨a, b, xs, ys, ex, hqx, hqy, hl, q⟩ := q1
  subst ex
  obtain ⟨u1, u2, eu, ra, rb⟩ := vals2 r1
  subst eu
  obtain rfl : u1 = Value.ref a := ra
  obtain rfl : u2 = Value.ref b := rb
  obtain ⟨its, rv, t1, z1⟩ := I1.tuple hqx
  obtain ⟨its2, rv2, t2, z2⟩ := I1.tuple hqy
  have ha1 : a < s1.heap.objs.size := by obtain ⟨o, ho, _⟩ := id t1; exact Heap.lt_size ho
  have hb1 : b < s1.heap.objs.size := by obtain ⟨o, ho, _⟩ := id t2; exact Heap.lt_size ho
  refine RZ.call_zipT (show s1.heap.IsTuple a its.toArray from t1) (show s1.heap.IsTuple b its2.toArray from t2) fun h' hz hti hto hi hj hsz hk => ?_
  refine Calls.spliced_nil ?_
  have lo5 : ∀ m : Nat, m < 5 → s1.heap.objs.size + m < h'.objs.size := fun m hm => by rw [hsz]; exact Nat.add_lt_add_left hm _
  have szl : its.toArray.size = its2.toArray.size := by
    have := rv.length; have := rv2.length
    simp; omega
  refine call_list_zipT (s := { s1 with heap := h' }) (A := X.A) (I1.ok.hd hc) (PySem.W.ktu_apart s1.heap.objs.size a b ha1 hb1) (fun c hc' => ?_) szl (by have := rv.length; simp; omega) hz hti hto hi hj
    (Heap.IsTuple.at (show s1.heap.IsTuple a its.toArray from t1) fun o e => hk _ _ e) (Heap.IsTuple.at (show s1.heap.IsTuple b its2.toArray from t2) fun o e => hk _ _ e) fun g tk acc c as hk' hS hl' hG hacc => ?_
  · have e' : c = s1.heap.objs.size + 4 ∨ c = s1.heap.objs.size + 2 ∨ c = s1.heap.objs.size + 3 ∨ c = s1.heap.objs.size ∨ c = s1.heap.objs.size + 1 ∨ c = a ∨ c = b := by simpa using hc'
    rcases e' with z | z | z | z | z | z | z
    · exact z ▸ lo5 4 (by decide)
    · exact z ▸ lo5 2 (by decide)
    · exact z ▸ lo5 3 (by decide)
    · exact z ▸ lo5 0 (by decide)
    · exact z ▸ lo5 1 (by decide)
    · exact z ▸ Nat.lt_trans ha1 (lo5 0 (by decide))
    · exact z ▸ Nat.lt_trans hb1 (lo5 0 (by decide))
  · have hkk : ∀ b o, s1.heap.get? b = some o → g.get? b = some o := fun d o e =>
      have ld := Heap.lt_size e
      hk' d o (Nat.ne_of_lt (Nat.lt_add_right 4 ld)) (Nat.ne_of_lt (Nat.lt_add_right 3 ld)) (Nat.ne_of_lt ld) (Nat.ne_of_lt (Nat.lt_add_right 1 ld)) (hk d o e)
    obtain ⟨H', k1, k2, k3, k4, J⟩ := pairs_laid (tk := tk) I1 (show s1.heap.objs.size ≤ h'.objs.size by rw [hsz]; exact Nat.le_add_right _ _) rv rv2 hl z1 hkk hS hl' hG hacc
    exact ⟨.ref _, H', J, rfl, q H' _ as k1 k2 k3 k4⟩
end Nf

set_option Elab.async false
set_option linter.all false
set_option maxRecDepth 100000
namespace Nf
open PySem PySem.Spec PyProof.Rows L2
/-! ### a text so many times -/
theorem op_mul_str {X : Cx} : OpR X (binaryOp .Mult) (fun x y H Q => ∃ z i, x = .str z ∧ y = .int i ∧ z.length ≤ 16 ∧ -(2 ^ 63 : Int) ≤ i ∧ i ≤ 1048576 ∧ Q (.str (Txt.mul z i)) H) := by
  intro pins s σ H x y v u Q I rx ry h
  obtain ⟨z, i, rfl, rfl, h1, h2, h3, q⟩ := h
  obtain ⟨t, rfl⟩ := rx
  obtain ⟨t2, rfl⟩ := ry
  exact PySem.W.KXi.mul rfl h1 h2 h3 fun t3 k _ _ => ⟨.str (Txt.mul z i), H, I.tok _, ⟨_, rfl⟩, q⟩
end Nf
namespace Nf
open PySem L2
/-! ### fitted -/
mutual
def fit : Say → Say → Option Fl
  | .name x, t => some [(x, t)]
  | .app false w ps, .app false w' ts => if w' = w ∧ ts.length = ps.length then fitA ps ts else none
  | _, _ => none
def fitA : List Say → List Say → Option Fl
  | p :: ps, t :: ts => match fit p t with
    | none => none
    | some a => (fitA ps ts).map (a ++ ·)
  | _, _ => some []
end
theorem fit_name {x : Str} {t : Say} : fit (.name x) t = some [(x, t)] := by cases t <;> simp only [fit]
theorem fit_app {w w' : Str} {ps ts : List Say} : fit (.app false w ps) (.app false w' ts) = if w' = w ∧ ts.length = ps.length then fitA ps ts else none := by simp only [fit]
theorem fitA_cons {p t : Say} {ps ts : List Say} : fitA (p :: ps) (t :: ts) = match fit p t with
    | none => none
    | some a => (fitA ps ts).map (a ++ ·) := by simp only [fitA]
theorem fitA_nil {ts : List Say} : fitA [] ts = some [] := by simp only [fitA]
/-- pairs one after another -/
def fitS : List (Say × Say) → Option Fl
  | [] => some []
  | q :: r => match fit q.1 q.2 with
    | none => none
    | some a => (fitS r).map (a ++ ·)
theorem fitA_zip : ∀ {ps ts : List Say}, ps.length = ts.length → fitA ps ts = fitS (ps.zip ts)
  | [], [], _ => by simp [fitA, fitS]
  | p :: ps, t :: ts, h => by
    rw [fitA_cons, List.zip_cons_cons]
    simp only [fitS]
    rw [fitA_zip (by simpa using h)]
theorem fitS_app : ∀ {a b : List (Say × Say)}, fitS (a ++ b) = match fitS a with
    | none => none
    | some x => (fitS b).map (x ++ ·)
  | [], b => by
    simp only [List.nil_append, fitS]
    cases fitS b <;> simp
  | q :: r, b => by
    simp only [List.cons_append, fitS]
    rw [fitS_app (a := r)]
    cases fit q.1 q.2 with
    | none => rfl
    | some x =>
      cases fitS r with
      | none => rfl
      | some y =>
        cases fitS b with
        | none => rfl
        | some z => simp
theorem fitS_cons {q : Say × Say} {r : List (Say × Say)} : fitS (q :: r) = match fit q.1 q.2 with
    | none => none
    | some a => (fitS r).map (a ++ ·) := rfl
/-- heads of a pattern -/
def PN (x : Str) : Prop := x = "name" ∨ x = "made"
theorem ok_PN {n : Nat} {s : Say} (h : Say.ok PN n s) : (∃ x, s = .name x) ∨ ∃ w ps, s = .app false w ps := by
  cases n with
  | zero => exact h.elim
  | succ n =>
    cases s with
    | name x => exact .inl ⟨x, rfl⟩
    | skip => exact absurd (show PN "skip" from h) (by unfold PN; decide)
    | app c w ps =>
      cases c with
      | false => exact .inr ⟨w, ps, rfl⟩
      | true => exact absurd (show PN (hApp true) from h.1) (by unfold PN; decide)
    | two c a b =>
      exact absurd (show PN (hTwo c) from h.1) (by clear h; unfold PN; revert c; decide)
def prDa (q : Say × Say) : Da := .tup [q.1.da, q.2.da]
theorem is_pr {H : Hp} {v : V} {q : Say × Say} (h : Is H v (prDa q)) : ∃ a x y, v = .ref a ∧ H a = some (.tup [x, y]) ∧ Is H x q.1.da ∧ Is H y q.2.da := by
  cases h with
  | @tup a xs _ h1 h2 =>
    cases h2 with
    | cons p1 q1 =>
      cases q1 with
      | cons p2 q2 =>
        cases q2
        exact ⟨a, _, _, rfl, h1, p1, p2⟩
/-- new pairs are data -/
theorem isA_pairs {H : Hp} : ∀ {ts : List Addr} {xs ys : List V} {ps us : List Say}, Paired (PrR H) ts (xs.zip ys) → IsA H xs (ps.map Say.da) → IsA H ys (us.map Say.da) → IsA H (ts.map V.ref) ((ps.zip us).map prDa)
  | [], [], _, [], _, _, _, _ => .nil
  | [], _ :: _, [], _ :: _, [], _, _, _ => .nil
  | [], _ :: _, [], [], _, _, h, _ => by cases h
  | t :: ts, x :: xs, y :: ys, p :: ps, u :: us, h, .cons a b, .cons c d => by
    cases h with
    | cons h1 h2 =>
      exact .cons (.tup (show H t = some (.tup [x, y]) from h1) (.cons a (.cons c .nil))) (isA_pairs h2 b d)
/-- nodes of a stack of pairs -/
def psz (st : List (Say × Say)) : Nat := (st.map fun q => (q.1.nod []).length).sum
theorem nod_len_path (s : Say) (p : List Int) : (s.nod p).length = (s.nod []).length := by
  have key : ∀ (n : Nat) (s : Say) (p p' : List Int), (s.nod p).length ≤ n → (s.nod p).length = (s.nod p').length := by
    intro n
    induction n with
    | zero =>
      intro s p p' h
      rw [nod_eq] at h
      simp at h
    | succ n ih =>
      intro s p p' h
      rw [nod_eq] at h
      rw [nod_eq, nod_eq, List.length_cons, List.length_cons]
      have key2 : ∀ (ps : List Say) (k : Nat), (ndAll (kids p k ps)).length ≤ n → (ndAll (kids p k ps)).length = (ndAll (kids p' k ps)).length := by
        intro ps
        induction ps with
        | nil => intro k _; rfl
        | cons s r ihr =>
          intro k hk
          have e : ∀ z, ndAll (kids z k (s :: r)) = s.nod (z ++ [(k : Int)]) ++ ndAll (kids z (k + 1) r) := fun _ => rfl
          rw [e, List.length_append] at hk
          rw [e, e, List.length_append, List.length_append, ih s _ (p' ++ [(k : Int)]) (by omega), ihr (k + 1) (by omega)]
      rw [key2 s.parts 0 (by simp at h; omega)]
  exact key _ s p [] (Nat.le_refl _)
theorem kids_psz (p : List Int) : ∀ (ps : List Say) (k : Nat), (ndAll (kids p k ps)).length = (ps.map fun q => (q.nod []).length).sum
  | [], _ => rfl
  | s :: r, k => by
    have e : ndAll (kids p k (s :: r)) = s.nod (p ++ [(k : Int)]) ++ ndAll (kids p (k + 1) r) := rfl
    rw [e, List.length_append, kids_psz p r (k + 1), nod_len_path, List.map_cons, List.sum_cons]
theorem nod_len_eq (s : Say) : (s.nod []).length = 1 + (s.parts.map fun q => (q.nod []).length).sum := by
  rw [nod_eq, List.length_cons, kids_psz]
  omega
theorem psz_zip {ps ts : List Say} (h : ps.length = ts.length) : psz (ps.zip ts) = (ps.map fun q => (q.nod []).length).sum := by
  unfold psz
  have e : ((ps.zip ts).map fun q => (q.1.nod []).length) = ((ps.zip ts).map Prod.fst).map fun q => (q.nod []).length := by rw [List.map_map]; rfl
  rw [e, List.map_fst_zip (by omega)]
theorem psz_ge : ∀ st : List (Say × Say), st.length ≤ psz st
  | [] => Nat.zero_le _
  | q :: r => by
    have := psz_ge r
    have e : psz (q :: r) = (q.1.nod []).length + psz r := by simp [psz]
    rw [e, nod_len_eq, List.length_cons]
    omega
theorem psz_app (a b : List (Say × Say)) : psz (a ++ b) = psz a + psz b := by simp [psz]
theorem psz_cons (q : Say × Say) (r : List (Say × Say)) : psz (q :: r) = (q.1.nod []).length + psz r := by simp [psz]
theorem head_made {s : Say} (h : s.head = "made") : ∃ w ps, s = .app false w ps := by
  cases s with
  | name x => exact absurd (show ("name" : Str) = "made" from h) (by decide)
  | skip => exact absurd (show ("skip" : Str) = "made" from h) (by decide)
  | app c w ps =>
    cases c with
    | false => exact ⟨w, ps, rfl⟩
    | true => exact absurd (show hApp true = "made" from h) (by decide)
  | two c a b => exact absurd (show hTwo c = "made" from h) (by clear h; revert c; decide)
theorem fit_none {w : Str} {ps : List Say} {t : Say} (h : t.head ≠ "made") : fit (.app false w ps) t = none := by
  cases t with
  | name x => simp only [fit]
  | skip => simp only [fit]
  | app c w' ts =>
    cases c with
    | false => exact absurd rfl h
    | true => simp only [fit]
  | two c a b => simp only [fit]
def fitDa : Option Fl → Da
  | none => .non
  | some fs => flDa fs
/-- what a fit tells -/
def FR (o : Option Fl) (b : Bool) (fs fs' : Fl) : Prop := match o with
  | none => b = false
  | some a => b = true ∧ fs' = fs ++ a
theorem fitS_take {l : List (Say × Say)} {i : Nat} {z : Say × Say} (h : l[i]? = some z) : fitS (l.take (i + 1)) = (fitS (l.take i)).bind fun x => (fit z.1 z.2).map (x ++ ·) := by
  rw [List.take_add_one, h]
  show fitS (l.take i ++ [z]) = _
  rw [fitS_app]
  have e : fitS [z] = fit z.1 z.2 := by
    rw [fitS_cons]
    cases fit z.1 z.2 <;> simp [fitS]
  rw [e]
  cases fitS (l.take i) <;> rfl
/-- one more part -/
theorem FR_step {o o' : Option Fl} {bs : List Bool} {b : Bool} {fs fs1 fs2 : Fl} (h : FR o (bs.all id) fs fs1) (h' : FR o' b fs1 fs2) :
    FR (o.bind fun x => o'.map (x ++ ·)) ((bs ++ [b]).all id) fs fs2 := by
  cases o with
  | none =>
    have e : bs.all id = false := h
    show (bs ++ [b]).all id = false
    rw [List.all_append, e, Bool.false_and]
  | some x =>
    obtain ⟨e1, e2⟩ := (show bs.all id = true ∧ fs1 = fs ++ x from h)
    cases o' with
    | none =>
      have e : b = false := h'
      show (bs ++ [b]).all id = false
      rw [List.all_append, e]
      simp
    | some y =>
      obtain ⟨e3, e4⟩ := (show b = true ∧ fs2 = fs1 ++ y from h')
      refine (show (bs ++ [b]).all id = true ∧ fs2 = fs ++ (x ++ y) from ⟨?_, ?_⟩)
      · rw [List.all_append, e1, e3]; rfl
      · rw [e4, e2, List.append_assoc]
theorem fit_ok {m : Nat} : ∀ {n : Nat} {p t : Say} {fs : Fl}, Say.ok PN n p → Say.ok (fun _ => True) m t → fit p t = some fs → fs.length ≤ 4 ^ n ∧ ∀ q ∈ fs, Say.ok (fun _ => True) m q.2
  | 0, _, _, _, h, _, _ => h.elim
  | n + 1, p, t, fs, hp, ht, hf => by
    have h4 : 0 < 4 ^ (n + 1) := Nat.pow_pos (by decide)
    rcases ok_PN hp with ⟨x, rfl⟩ | ⟨w, ps, rfl⟩
    · rw [fit_name] at hf
      cases hf
      refine ⟨by simp; omega, fun q hq => ?_⟩
      rw [List.mem_singleton.mp hq]
      exact ht
    · by_cases hm : t.head = "made"
      · obtain ⟨w', ts, rfl⟩ := head_made hm
        rw [fit_app] at hf
        by_cases hc : w' = w ∧ ts.length = ps.length
        · rw [if_pos hc, fitA_zip hc.2.symm] at hf
          cases m with
          | zero => exact ht.elim
          | succ m =>
            have key : ∀ (l : List (Say × Say)) (fs : Fl), (∀ z ∈ l, Say.ok PN n z.1 ∧ Say.ok (fun _ => True) (m + 1) z.2) → fitS l = some fs → fs.length ≤ l.length * 4 ^ n ∧ ∀ q ∈ fs, Say.ok (fun _ => True) (m + 1) q.2 := by
              intro l
              induction l with
              | nil =>
                intro fs _ h
                cases h
                exact ⟨by simp, by simp⟩
              | cons z r ih =>
                intro fs hz h
                rw [fitS_cons] at h
                cases h1 : fit z.1 z.2 with
                | none => rw [h1] at h; cases h
                | some a =>
                  rw [h1] at h
                  obtain ⟨b, hb, rfl⟩ := Option.map_eq_some_iff.mp h
                  obtain ⟨k1, k2⟩ := fit_ok (hz z (by simp)).1 (hz z (by simp)).2 h1
                  obtain ⟨k3, k4⟩ := ih b (fun y hy => hz y (by simp [hy])) hb
                  refine ⟨?_, fun q hq => ?_⟩
                  · rw [List.length_append, List.length_cons, Nat.succ_mul]; omega
                  · rcases List.mem_append.mp hq with h | h
                    · exact k2 q h
                    · exact k4 q h
            obtain ⟨k1, k2⟩ := key _ fs (fun z hz => by
              have hz' := List.of_mem_zip (show (z.1, z.2) ∈ ps.zip ts from hz)
              exact ⟨hp.2.2 z.1 hz'.1, Say.ok_mono (by omega) (ht.2.2 z.2 hz'.2)⟩) hf
            refine ⟨?_, k2⟩
            rw [List.length_zip] at k1
            have h3 : ps.length ≤ 3 := hp.2.1
            have : min ps.length ts.length * 4 ^ n ≤ 3 * 4 ^ n := Nat.mul_le_mul_right _ (by omega)
            rw [Nat.pow_succ]
            omega
        · rw [if_neg hc] at hf
          cases hf
      · rw [fit_none hm] at hf
        cases hf
theorem fitDa_dep {m n : Nat} {p t : Say} (hp : Say.ok PN n p) (ht : Say.ok (fun _ => True) m t) (hn : n ≤ 8) : Da.dep (2 * m + 4) (fitDa (fit p t)) := by
  cases hf : fit p t with
  | none => exact True.intro
  | some fs =>
    obtain ⟨h1, h2⟩ := fit_ok hp ht hf
    have h3 : 4 ^ n ≤ 4 ^ 8 := Nat.pow_le_pow_right (by decide) hn
    have h4 : 4 ^ 8 = 65536 := by decide
    refine ⟨by rw [List.length_map]; omega, fun d hd => ?_⟩
    obtain ⟨q, hq, rfl⟩ := List.mem_map.mp hd
    refine ⟨by simp, fun d hd => ?_⟩
    simp at hd
    rcases hd with rfl | rfl
    · exact True.intro
    · exact Say.dep (h2 q hq)
theorem Keep.noTupL {H : Hp} {m : Addr} {us : List V} (h : H m = some (.lst us)) : NoTup [m] H := fun a ha xs e => by
  rw [List.mem_singleton.mp ha, h] at e
  cases e
theorem Deck.keepB {L : List Addr} {H H' : Hp} {d g c : Addr} {n : Nat} (D : Deck H d g c n) (k : Keep L H H') (h : ∀ a ∈ [d, g, c], a ∉ L) : Deck H' d g c n := by
  obtain ⟨i, h1, h2⟩ := D.hd
  obtain ⟨ds, h3, h4⟩ := D.hg
  obtain ⟨cs, h5, h6⟩ := D.hc
  exact ⟨D.ne1, D.ne2, D.ne3, ⟨i, k.at h1 (h d (by simp)), h2⟩, ⟨ds, k.at h3 (h g (by simp)), h4⟩, ⟨cs, k.at h5 (h c (by simp)), h6⟩⟩
/-- a list made on the way may change -/
theorem Keep.thru {L : List Addr} {H H1 H2 : Hp} {m : Addr} {o : HO} (k : Keep L H H1) (hm : H m = none) (k2 : Keep [m] (upd H1 m o) H2) : Keep L H H2 := fun a u e n => by
  have na : a ≠ m := ne_of_none e hm
  exact k2.at (by rw [upd_ne na]; exact k a u e n) (by simpa using na)
theorem all_true (n : Nat) : (List.replicate n true).all id = true := by
  induction n with
  | zero => rfl
  | succ n ih => rw [List.replicate_succ, List.all_cons, ih]; rfl
end Nf

set_option Elab.async false
set_option linter.all false
set_option maxRecDepth 100000
namespace Nf
open PySem L2
/-! ### names of a pattern, in order -/
mutual
def Say.nm : Say → List Str
  | .name x => [x]
  | .skip => []
  | .app _ _ ps => Say.nmA ps
  | .two _ a b => Say.nm a ++ Say.nm b
def Say.nmA : List Say → List Str
  | [] => []
  | s :: r => Say.nm s ++ Say.nmA r
end
theorem Say.nmA_flat : ∀ ps : List Say, Say.nmA ps = ps.flatMap Say.nm
  | [] => rfl
  | s :: r => by simp only [Say.nmA, List.flatMap_cons, Say.nmA_flat r]
theorem nm_app {c : Bool} {w : Str} {ps : List Say} : (Say.app c w ps).nm = ps.flatMap Say.nm := by simp only [Say.nm, Say.nmA_flat]
theorem nm_nod {f : Str → Prop} : ∀ {n : Nat} {s : Say} (p : List Int), Say.ok f n s → (s.nod p).filterMap nmOf = s.nm
  | 0, _, _, h => h.elim
  | n + 1, s, p, h => by
    have ho := Say.ok_parts h
    have key : ∀ (ps : List Say) (k : Nat), (∀ q ∈ ps, Say.ok f n q) → (ndAll (kids p k ps)).filterMap nmOf = ps.flatMap Say.nm := by
      intro ps
      induction ps with
      | nil => intro k _; rfl
      | cons s r ih =>
        intro k hq
        have e : ndAll (kids p k (s :: r)) = s.nod (p ++ [(k : Int)]) ++ ndAll (kids p (k + 1) r) := rfl
        rw [e, List.filterMap_append, nm_nod _ (hq s (by simp)), ih (k + 1) fun q hm => hq q (by simp [hm])]
        rfl
    rw [nod_eq, List.filterMap_cons, key s.parts 0 ho]
    cases s with
    | name x => simp [nmOf, Say.parts, Say.nm]
    | skip => simp [nmOf, Say.parts, Say.nm]
    | app c w ps => rw [nm_app]; rfl
    | two c a b => simp [nmOf, Say.parts, Say.nm]
theorem foldl_uadd : ∀ (l acc : List Str), (acc ++ l).Nodup → l.foldl uadd acc = acc ++ l
  | [], acc, _ => by simp
  | x :: r, acc, h => by
    have hx : x ∉ acc := fun hm => by
      rw [List.nodup_append] at h
      exact h.2.2 x hm x (by simp) rfl
    have e : uadd acc x = acc ++ [x] := by unfold uadd; rw [if_neg hx]
    rw [List.foldl_cons, e, foldl_uadd r (acc ++ [x]) (by simpa using h)]
    simp
theorem unames_eq (l : List Nd) (h : (l.filterMap nmOf).Nodup) : unames l = l.filterMap nmOf := by
  have key : ∀ (l : List Nd) (acc : List Str), l.foldl ustep acc = (l.filterMap nmOf).foldl uadd acc := by
    intro l
    induction l with
    | nil => intro acc; rfl
    | cons q r ih =>
      intro acc
      rw [List.foldl_cons, ih, List.filterMap_cons]
      unfold ustep
      cases nmOf q <;> rfl
  unfold unames
  rw [key, foldl_uadd _ [] (by simpa using h)]
  rfl
/-! ### a pattern filled fits by the fills -/
def fillOf (fs : Fl) (x : Str) : Str × Say := (x, (fs.lookup x).getD (.name x))
theorem fit_fill {fs : Fl} : ∀ {n : Nat} {p : Say}, Say.ok PN n p → fit p (p.fill fs) = some (p.nm.map (fillOf fs))
  | 0, _, h => h.elim
  | n + 1, p, h => by
    rcases ok_PN h with ⟨x, rfl⟩ | ⟨w, ps, rfl⟩
    · rw [fit_name, Say.fill_name]
      simp [Say.nm, fillOf]
    · rw [Say.fill_app, fit_app, if_pos ⟨rfl, List.length_map _⟩, nm_app]
      have ho := h.2.2
      clear h
      induction ps with
      | nil => simp [fitA]
      | cons s r ih =>
        rw [List.map_cons, fitA_cons, fit_fill (ho s (by simp)), ih fun q hq => ho q (by simp [hq])]
        simp
theorem fitA_keys : ∀ {ps ts : List Say} {fs : Fl}, (∀ q ∈ ps, ∀ t fs, fit q t = some fs → fs.map Prod.fst = q.nm) → ts.length = ps.length → fitA ps ts = some fs → fs.map Prod.fst = ps.flatMap Say.nm
  | [], _, fs, _, _, hf => by
    rw [fitA_nil] at hf
    cases hf
    rfl
  | s :: r, [], _, _, hl, _ => by simp at hl
  | s :: r, t1 :: tr, fs, key, hl, hf => by
    rw [fitA_cons] at hf
    cases h1 : fit s t1 with
    | none => rw [h1] at hf; cases hf
    | some a =>
      rw [h1] at hf
      obtain ⟨b, hb, rfl⟩ := Option.map_eq_some_iff.mp hf
      rw [List.map_append, key s (by simp) t1 a h1, fitA_keys (fun q hq => key q (by simp [hq])) (by simpa using hl) hb]
      rfl
theorem fit_keys : ∀ {n : Nat} {p t : Say} {fs : Fl}, Say.ok PN n p → fit p t = some fs → fs.map Prod.fst = p.nm
  | 0, _, _, _, h, _ => h.elim
  | n + 1, p, t, fs, h, hf => by
    rcases ok_PN h with ⟨x, rfl⟩ | ⟨w, ps, rfl⟩
    · rw [fit_name] at hf
      cases hf
      simp [Say.nm]
    · by_cases hm : t.head = "made"
      · obtain ⟨w', ts, rfl⟩ := head_made hm
        rw [fit_app] at hf
        by_cases hc : w' = w ∧ ts.length = ps.length
        · rw [if_pos hc] at hf
          rw [nm_app]
          exact fitA_keys (fun q hq t fs hq' => fit_keys (h.2.2 q hq) hq') hc.2 hf
        · rw [if_neg hc] at hf
          cases hf
      · rw [fit_none hm] at hf
        cases hf
/-- a filling asks for the names' fills alone -/
theorem fill_congr {fs gs : Fl} : ∀ {n : Nat} {p : Say}, Say.ok PN n p → (∀ x ∈ p.nm, fs.lookup x = gs.lookup x) → p.fill fs = p.fill gs
  | 0, _, h, _ => h.elim
  | n + 1, p, h, hx => by
    rcases ok_PN h with ⟨x, rfl⟩ | ⟨w, ps, rfl⟩
    · rw [Say.fill_name, Say.fill_name, hx x (by simp [Say.nm])]
    · rw [Say.fill_app, Say.fill_app]
      congr 1
      refine List.map_congr_left fun q hq => fill_congr (h.2.2 q hq) fun x hxq => hx x ?_
      rw [nm_app]
      exact List.mem_flatMap.mpr ⟨q, hq, hxq⟩
theorem lookup_mem {fs : Fl} {x : Str} (h : x ∈ fs.map Prod.fst) : ∃ s, fs.lookup x = some s := by
  cases hl : fs.lookup x with
  | some s => exact ⟨s, rfl⟩
  | none =>
    rw [List.lookup_eq_none_iff] at hl
    obtain ⟨q, hq, rfl⟩ := List.mem_map.mp h
    have := hl q hq
    simp at this
theorem fit_back : ∀ {n : Nat} {p t : Say} {fs : Fl}, Say.ok PN n p → p.nm.Nodup → fit p t = some fs → p.fill fs = t
  | 0, _, _, _, h, _, _ => h.elim
  | n + 1, p, t, fs, h, hnd, hf => by
    rcases ok_PN h with ⟨x, rfl⟩ | ⟨w, ps, rfl⟩
    · rw [fit_name] at hf
      cases hf
      rw [Say.fill_name]
      simp [List.lookup]
    · by_cases hm : t.head = "made"
      · obtain ⟨w', ts, rfl⟩ := head_made hm
        rw [fit_app] at hf
        by_cases hc : w' = w ∧ ts.length = ps.length
        · rw [if_pos hc] at hf
          obtain ⟨rfl, hl⟩ := hc
          rw [Say.fill_app]
          congr 1
          have ho := h.2.2
          rw [nm_app] at hnd
          clear h hm
          induction ps generalizing ts fs with
          | nil =>
            cases ts with
            | nil => rfl
            | cons _ _ => simp at hl
          | cons s r ih =>
            cases ts with
            | nil => simp at hl
            | cons t1 tr =>
              rw [fitA_cons] at hf
              cases h1 : fit s t1 with
              | none => rw [h1] at hf; cases hf
              | some a =>
                rw [h1] at hf
                obtain ⟨b, hb, rfl⟩ := Option.map_eq_some_iff.mp hf
                rw [List.flatMap_cons, List.nodup_append] at hnd
                obtain ⟨n1, n2, n3⟩ := hnd
                have ka := fit_keys (ho s (by simp)) h1
                have hor : ∀ q ∈ r, Say.ok PN n q := fun q hq => ho q (by simp [hq])
                rw [List.map_cons]
                congr 1
                · rw [← fit_back (ho s (by simp)) n1 h1]
                  refine fill_congr (ho s (by simp)) fun x hx => ?_
                  obtain ⟨v, hv⟩ := lookup_mem (fs := a) (x := x) (by rw [ka]; exact hx)
                  rw [List.lookup_append, hv]
                  rfl
                · rw [← ih (ts := tr) (fs := b) hb (by simpa using hl) n2 hor]
                  refine List.map_congr_left fun q hq => fill_congr (hor q hq) fun x hx => ?_
                  have hxr : x ∈ r.flatMap Say.nm := List.mem_flatMap.mpr ⟨q, hq, hx⟩
                  have hxa : a.lookup x = none := lookup_none_of (by rw [ka]; exact fun hm => n3 x hm x hxr rfl)
                  rw [List.lookup_append, hxa]
                  rfl
        · rw [if_neg hc] at hf
          cases hf
      · rw [fit_none hm] at hf
        cases hf
end Nf

set_option Elab.async false
set_option linter.all false
set_option maxRecDepth 100000
namespace Nf
open PySem L2
/-! ### the names that are put in: all unlike -/
def cj (j : Nat) : Nat := 97 + j * 7 % 26
def tj (j : Nat) : Str := Txt.mul ⟨#[cj j]⟩ (1 + ((j : Nat) : Int) / 26)
theorem foldl_arr {x : Array Nat} : ∀ (n : Nat) (acc : Array Nat), ((List.replicate n x).foldl (· ++ ·) acc).toList = acc.toList ++ (List.replicate n x.toList).flatten
  | 0, acc => by simp
  | n + 1, acc => by
    rw [List.replicate_succ, List.foldl_cons, foldl_arr n, List.replicate_succ, List.flatten_cons, Array.toList_append, List.append_assoc]
theorem mul_codes (c : Nat) (n : Nat) : (Txt.mul ⟨#[c]⟩ ((n + 1 : Nat) : Int)).cps.toList = List.replicate (n + 1) c := by
  unfold Txt.mul
  rw [if_neg (by omega)]
  cases n with
  | zero => simp
  | succ n =>
    rw [if_neg]
    · show ((List.replicate ((n + 1 + 1 : Nat) : Int).toNat #[c]).foldl (· ++ ·) #[]).toList = _
      rw [foldl_arr, Int.toNat_natCast]
      simp [List.flatten_replicate_singleton]
    · have h1 : (((n + 1 + 1 : Nat) : Int) == 1) = false := by
        rw [beq_eq_false_iff_ne]
        omega
      have h2 : (Str.length ⟨#[c]⟩ == 0) = false := rfl
      rw [h1, h2]
      decide
theorem tj_codes (j : Nat) : (tj j).cps.toList = List.replicate (j / 26 + 1) (cj j) := by
  unfold tj
  have e : (1 + ((j : Nat) : Int) / 26) = ((j / 26 + 1 : Nat) : Int) := by omega
  rw [e, mul_codes]
theorem tj_inj {i j : Nat} (h : tj i = tj j) : i = j := by
  have e : (tj i).cps.toList = (tj j).cps.toList := by rw [h]
  rw [tj_codes, tj_codes] at e
  have h1 := congrArg List.length e
  rw [List.length_replicate, List.length_replicate] at h1
  have h2 : cj i = cj j := by
    have := congrArg List.head? e
    simpa [List.replicate_succ] using this
  unfold cj at h2
  omega
theorem tj_nodup (k : Nat) : ((List.range k).map tj).Nodup := by
  exact (List.pairwise_map.mpr (List.nodup_range.imp fun h e => h (tj_inj e)))
/-! ### where a pattern and a thing part -/
def ndAt (l : List Nd) (p : List Int) : Option Say := (l.find? fun q => decide (q.1 = p)).map (·.2)
def badAt (l : List Nd) (q : Nd) : Bool := match q.2 with
  | .app false w ps => match ndAt l q.1 with
    | some (.app false w' ts) => !(decide (w' = w) && decide (ts.length = ps.length))
    | _ => true
  | _ => false
def bad (p t : Say) (pre : List Int) : Bool := (p.nod pre).any (badAt (t.nod pre))
theorem nod_pre : ∀ {n : Nat} {s : Say} {f : Str → Prop} (p : List Int), Say.ok f n s → ∀ q ∈ s.nod p, ∃ r, q.1 = p ++ r
  | 0, _, _, _, h => h.elim
  | n + 1, s, f, p, h => by
    intro q hq
    rw [nod_eq] at hq
    rcases List.mem_cons.mp hq with rfl | hq
    · exact ⟨[], by simp⟩
    · unfold ndAll at hq
      obtain ⟨z, hz, hqz⟩ := List.mem_flatMap.mp hq
      have ho := Say.ok_parts h z.2 (kids_mem hz)
      obtain ⟨i, hi⟩ := List.getElem?_of_mem hz
      rw [kids_get] at hi
      obtain ⟨s', _, rfl⟩ := Option.map_eq_some_iff.mp hi
      obtain ⟨r, hr⟩ := nod_pre (n := n) _ ho q hqz
      exact ⟨[((0 + i : Nat) : Int)] ++ r, by rw [hr]; simp⟩
theorem ndAt_app {l m : List Nd} {p : List Int} (h : ∀ q ∈ l, q.1 ≠ p) : ndAt (l ++ m) p = ndAt m p := by
  unfold ndAt
  rw [List.find?_append, List.find?_eq_none.mpr (fun q hq => by simpa using h q hq)]
  rfl
theorem ndAt_appL {l m : List Nd} {p : List Int} (h : ∀ q ∈ m, q.1 ≠ p) : ndAt (l ++ m) p = ndAt l p := by
  have e : List.find? (fun q : Nd => decide (q.1 = p)) m = none := List.find?_eq_none.mpr (fun q hq => by simpa using h q hq)
  unfold ndAt
  rw [List.find?_append, e, Option.or_none]
/-- below the i-th part -/
theorem ndAt_kids {f : Str → Prop} {n : Nat} {pre r : List Int} : ∀ {ts : List Say} {k i : Nat} {t : Say}, (∀ z ∈ ts, Say.ok f n z) → ts[i]? = some t → ndAt (ndAll (kids pre k ts)) (pre ++ [((k + i : Nat) : Int)] ++ r) = ndAt (t.nod (pre ++ [((k + i : Nat) : Int)])) (pre ++ [((k + i : Nat) : Int)] ++ r)
  | [], _, i, _, _, h => by simp at h
  | s :: ts, k, 0, t, ho, h => by
    have e : t = s := by simpa using h.symm
    subst e
    have e2 : ndAll (kids pre k (t :: ts)) = t.nod (pre ++ [(k : Int)]) ++ ndAll (kids pre (k + 1) ts) := rfl
    rw [e2, Nat.add_zero]
    refine ndAt_appL fun q hq e => ?_
    unfold ndAll at hq
    obtain ⟨z, hz, hqz⟩ := List.mem_flatMap.mp hq
    have hoz := ho z.2 (by have := kids_mem hz; simp [this])
    obtain ⟨m, hm⟩ := List.getElem?_of_mem hz
    rw [kids_get] at hm
    obtain ⟨s', _, rfl⟩ := Option.map_eq_some_iff.mp hm
    obtain ⟨r', hr'⟩ := nod_pre _ hoz q hqz
    rw [hr'] at e
    simp at e
    omega
  | s :: ts, k, i + 1, t, ho, h => by
    have e2 : ndAll (kids pre k (s :: ts)) = s.nod (pre ++ [(k : Int)]) ++ ndAll (kids pre (k + 1) ts) := rfl
    rw [e2, ndAt_app]
    · have := ndAt_kids (pre := pre) (r := r) (k := k + 1) (i := i) (fun z hz => ho z (by simp [hz])) (show ts[i]? = some t by simpa using h)
      rw [show k + 1 + i = k + (i + 1) by omega] at this
      exact this
    · intro q hq e
      obtain ⟨r', hr'⟩ := nod_pre _ (ho s (by simp)) q hq
      rw [hr'] at e
      simp at e
      omega
theorem any_congr {α : Type} {l : List α} {f g : α → Bool} (h : ∀ x ∈ l, f x = g x) : l.any f = l.any g := by
  induction l with
  | nil => rfl
  | cons x r ih => rw [List.any_cons, List.any_cons, h x (by simp), ih fun y hy => h y (by simp [hy])]
theorem badAt_congr {l m : List Nd} {q : Nd} (h : ndAt l q.1 = ndAt m q.1) : badAt l q = badAt m q := by
  unfold badAt
  rw [h]
theorem bad_fit {f : Str → Prop} {m : Nat} : ∀ {n : Nat} {p t : Say} (pre : List Int), Say.ok PN n p → Say.ok f m t → bad p t pre = (fit p t).isNone
  | 0, _, _, _, h, _ => h.elim
  | n + 1, p, t, pre, hp, ht => by
    rcases ok_PN hp with ⟨x, rfl⟩ | ⟨w, ps, rfl⟩
    · rw [fit_name]
      simp [bad, Say.nod, badAt]
    · have hat : ndAt (t.nod pre) pre = some t := by rw [nod_eq]; simp [ndAt]
      have e0 : bad (.app false w ps) t pre = (badAt (t.nod pre) (pre, .app false w ps) || (ndAll (kids pre 0 ps)).any (badAt (t.nod pre))) := by
        unfold bad
        rw [nod_eq, List.any_cons]
        rfl
      rw [e0]
      by_cases hm : t.head = "made"
      · obtain ⟨w', ts, rfl⟩ := head_made hm
        have e1 : badAt ((Say.app false w' ts).nod pre) (pre, .app false w ps) = !(decide (w' = w) && decide (ts.length = ps.length)) := by
          unfold badAt
          dsimp only
          rw [hat]
        rw [e1, fit_app]
        by_cases hc : w' = w ∧ ts.length = ps.length
        · rw [if_pos hc, decide_eq_true hc.1, decide_eq_true hc.2, Bool.and_self, Bool.not_true, Bool.false_or]
          have hl := hc.2
          cases m with
          | zero => exact ht.elim
          | succ m =>
            have ho := hp.2.2
            have hto := ht.2.2
            have en : (Say.app false w' ts).nod pre = (pre, .app false w' ts) :: ndAll (kids pre 0 ts) := nod_eq _ _
            have hrest : (ndAll (kids pre 0 ps)).any (badAt ((Say.app false w' ts).nod pre)) = (ndAll (kids pre 0 ps)).any (badAt (ndAll (kids pre 0 ts))) := by
              refine any_congr fun q hq => badAt_congr ?_
              rw [en]
              have : ndAt ([(pre, Say.app false w' ts)] ++ ndAll (kids pre 0 ts)) q.1 = ndAt (ndAll (kids pre 0 ts)) q.1 := by
                refine ndAt_app fun z hz e => ?_
                rw [List.mem_singleton.mp hz] at e
                unfold ndAll at hq
                obtain ⟨y, hy, hqy⟩ := List.mem_flatMap.mp hq
                obtain ⟨i, hi⟩ := List.getElem?_of_mem hy
                rw [kids_get] at hi
                obtain ⟨s', hs', rfl⟩ := Option.map_eq_some_iff.mp hi
                obtain ⟨r', hr'⟩ := nod_pre _ (ho s' (List.mem_of_getElem? hs')) q hqy
                rw [hr'] at e
                simp at e
              exact this
            rw [hrest]
            have key : ∀ (ps2 ts2 : List Say) (k : Nat), ts2.length = ps2.length → (∀ q ∈ ps2, Say.ok PN n q) → (∀ z ∈ ts2, Say.ok f m z) → (∀ i : Nat, ts[k + i]? = ts2[i]?) →
                (ndAll (kids pre k ps2)).any (badAt (ndAll (kids pre 0 ts))) = (fitA ps2 ts2).isNone := by
              intro ps2
              induction ps2 with
              | nil =>
                intro ts2 k _ _ _ _
                rw [fitA_nil]
                rfl
              | cons s r ih =>
                intro ts2 k hl2 ho2 hto2 hix
                cases ts2 with
                | nil => simp at hl2
                | cons t1 tr =>
                  have e2 : ndAll (kids pre k (s :: r)) = s.nod (pre ++ [(k : Int)]) ++ ndAll (kids pre (k + 1) r) := rfl
                  rw [e2, List.any_append, ih tr (k + 1) (by simpa using hl2) (fun q hq => ho2 q (by simp [hq])) (fun z hz => hto2 z (by simp [hz])) (fun i => by
                    have := hix (i + 1)
                    rw [show k + (i + 1) = k + 1 + i by omega] at this
                    simpa using this)]
                  have h1 : (s.nod (pre ++ [(k : Int)])).any (badAt (ndAll (kids pre 0 ts))) = bad s t1 (pre ++ [(k : Int)]) := by
                    unfold bad
                    refine any_congr fun q hq => badAt_congr ?_
                    obtain ⟨r', hr'⟩ := nod_pre _ (ho2 s (by simp)) q hq
                    rw [hr']
                    have := ndAt_kids (f := f) (n := m) (pre := pre) (r := r') (ts := ts) (k := 0) (i := k) (t := t1) hto (by have := hix 0; simpa using this)
                    rw [Nat.zero_add] at this
                    exact this
                  rw [h1, bad_fit _ (ho2 s (by simp)) (hto2 t1 (by simp)), fitA_cons]
                  cases fit s t1 with
                  | none => rfl
                  | some a => cases fitA r tr <;> rfl
            exact key ps ts 0 hl ho hto (fun i => by rw [Nat.zero_add])
        · rw [if_neg hc]
          have : (decide (w' = w) && decide (ts.length = ps.length)) = false := by
            rw [Bool.and_eq_false_iff]
            by_cases h1 : w' = w
            · exact .inr (decide_eq_false (fun h2 => hc ⟨h1, h2⟩))
            · exact .inl (decide_eq_false h1)
          rw [this]
          rfl
      · rw [fit_none hm]
        have e1 : badAt (t.nod pre) (pre, .app false w ps) = true := by
          unfold badAt
          dsimp only
          rw [hat]
          cases t with
          | app c w' ts =>
            cases c with
            | false => exact absurd rfl hm
            | true => rfl
          | _ => rfl
        rw [e1]
        rfl
end Nf

set_option Elab.async false
set_option linter.all false
set_option maxRecDepth 100000
namespace Nf
open PySem PySem.Spec PyProof.Rows L2
/-! ### tuple(xs), known to have no dict of its own -/
def rTupF (K : PySem.W.Frag) : List V → Hp → VK → Prop := fun xs H Q => ∃ p ys, xs = [.ref p] ∧ SqL K H p ys ∧ ∀ l o, H l = none → Obj.dict o = none → Q (.ref l) (upd H l (.frz o (.tup ys)))
theorem call_tup_frz {X : Cx} : CallR X (.type "tuple") (rTupF X.K) := by
  intro pins s σ H xs us Q I r h
  obtain ⟨p, ys, rfl, hs, q⟩ := h
  obtain ⟨u, rfl, rx⟩ := vals1 r
  obtain rfl : u = Value.ref p := rx
  obtain ⟨its, rv, pl, hz⟩ := I.list hs
  refine call_tuple_list pl.isList (fun h' hk => ?_) (by rw [List.size_toArray, ← rv.length]; exact hz)
  have I1 : Inv X pins σ H { s with heap := h' } := I.kept (t' := s.toks) hk
  have I2 : Inv X pins σ (upd H h'.objs.size (.frz { cls := .type "tuple", data := .seq its.toArray } (.tup ys))) { s with heap := h'.push { cls := .type "tuple", data := .seq its.toArray } } :=
    I1.laid (t' := s.toks) (fun b o e => Heap.get?_push_of_some _ e) (Nat.le_refl _) ⟨Heap.get?_push_size _ rfl, hz, its, rv, IsTup.new _ _⟩
  exact ⟨.ref h'.objs.size, _, I2, rfl, q _ _ (I1.hok.fresh (Nat.le_refl _)) rfl⟩
theorem sqF {K : PySem.W.Frag} {H : Hp} {a : Addr} {o : Obj} {xs : List V} (h : H a = some (.frz o (.tup xs))) : SqT K H a xs := .inl (.inr ⟨o, h⟩)
/-! ### dict(t), t a tuple of pairs whose keys are tuples, all unlike -/
structure Pq where
  t : Addr
  b : Addr
  k : List Key
  v : V
theorem storedAll_nodup : ∀ {ps acc : List (List Key × Addr × Value)}, ((acc ++ ps).map (·.1)).Nodup → storedAllH acc ps = acc ++ ps
  | [], acc, _ => by simp [storedAllH]
  | p :: ps, acc, h => by
    have hn : atKey acc p.1 = none := by
      unfold atKey
      rw [List.find?_eq_none.mpr]
      · rfl
      · intro x hx
        simp only [decide_eq_true_eq]
        intro e
        rw [List.map_append, List.nodup_append] at h
        exact h.2.2 x.1 (List.mem_map.mpr ⟨x, hx, rfl⟩) p.1 (by simp) e
    have e : storedAllH acc (p :: ps) = storedAllH (storedH acc p.1 p.2.1 p.2.2) ps := rfl
    rw [e, storedH_new hn, storedAll_nodup (ps := ps) (acc := acc ++ [(p.1, p.2.1, p.2.2)]) (by simpa using h)]
    simp
def rDictT (K : PySem.W.Frag) : List V → Hp → VK → Prop := fun xs H Q => ∃ (a : Addr) (o : Obj) (ps : List Pq), xs = [.ref a] ∧ H a = some (.frz o (.tup (ps.map fun q => V.ref q.t))) ∧ Obj.dict o = none ∧
  (∀ q ∈ ps, H q.t = some (.tup [.ref q.b, q.v]) ∧ H q.b = some (.tup (q.k.map kV))) ∧ (ps.map fun q => q.k).Nodup ∧ ∀ p, H p = none → Q (.ref p) (upd H p (.dT (ps.map fun q => (q.k, q.v))))
theorem vals_ref : ∀ {ps : List Pq} {us : List Value}, Vals (ps.map fun q => V.ref q.t) us → us = ps.map fun q => Value.ref q.t
  | [], _, .nil => rfl
  | _ :: _, _, .cons r t => by rw [vals_ref t]; cases r; rfl
theorem pq_vals {X : Cx} {pins : List (Addr × Obj)} {σ : L2.St} {H : Hp} {s : Shared} (I : Inv X pins σ H s) : ∀ ps : List Pq, (∀ q ∈ ps, H q.t = some (.tup [.ref q.b, q.v])) →
    ∃ us : List Value, Paired (fun (q : Pq) (u : Value) => RelV q.v u ∧ s.heap.IsTuple q.t #[.ref q.b, u]) ps us
  | [], _ => ⟨[], .nil⟩
  | q :: r, h => by
    obtain ⟨us, hr⟩ := pq_vals I r fun z hz => h z (by simp [hz])
    obtain ⟨_, its, rv, p⟩ := (show ObjOk X.prog X.w H s.heap q.t (.tup [.ref q.b, q.v]) from I.hok _ _ (h q (by simp)))
    cases rv with
    | cons r1 rr =>
      cases rr with
      | cons r2 rr =>
        cases rr
        cases r1
        exact ⟨_ :: us, .cons ⟨r2, p⟩ hr⟩
theorem paired_getL {α β : Type} {F : α → β → Prop} : ∀ {xs : List α} {ys : List β}, Paired F xs ys → ∀ {i : Nat} {x : α}, xs[i]? = some x → ∃ y, ys[i]? = some y ∧ F x y
  | _, _, .nil, i, x, h => by simp at h
  | _, _, .cons r t, 0, x, h => by
    have e := Option.some.inj h
    subst e
    exact ⟨_, rfl, r⟩
  | _, _, .cons r t, i + 1, x, h => paired_getL t h
theorem call_dictT {X : Cx} (hc : X.calm = true) (hu : X.A.units + 64 < cLine) : CallR X (.type "dict") (rDictT X.K) := by
  intro pins s σ H xs us Q I r h
  obtain ⟨a, o, ps, rfl, ha, hod, hps, hnd, q⟩ := h
  obtain ⟨u, rfl, rx⟩ := vals1 r
  obtain rfl : u = Value.ref a := rx
  obtain ⟨ho, hz, its, rv, tp⟩ := (show ObjOk X.prog X.w H s.heap a (.frz o (.tup (ps.map fun q => V.ref q.t))) from I.hok _ _ ha)
  have eits := vals_ref rv
  subst eits
  rw [List.length_map] at hz
  obtain ⟨vs, hvs⟩ := pq_vals I ps fun z hz => (hps z hz).1
  have lvs : ps.length = vs.length := hvs.length
  have zl : (ps.zip vs).length = ps.length := by rw [List.length_zip]; omega
  have hat : ∀ {i : Nat} {z : Pq × Value}, (ps.zip vs)[i]? = some z → ps[i]? = some z.1 ∧ RelV z.1.v z.2 ∧ s.heap.IsTuple z.1.t #[.ref z.1.b, z.2] := fun {i z} hz => by
    rw [List.getElem?_zip_eq_some] at hz
    obtain ⟨y, hy, f1, f2⟩ := paired_getL hvs hz.1
    rw [hz.2] at hy
    cases hy
    exact ⟨hz.1, f1, f2⟩
  obtain ⟨oo, h1, h2, n, h3⟩ := id tp
  have eo : oo = o := by rw [ho] at h1; exact (Option.some.inj h1).symm
  subst eo
  let psV : List (Value × Value) := (ps.zip vs).map fun z => (Value.ref z.1.b, z.2)
  let Ts : Nat → Addr := fun j => match ps[j]? with
    | some z => z.t
    | none => 0
  let psK : List (List Key × Addr × Value) := (ps.zip vs).map fun z => (z.1.k, z.1.b, z.2)
  have lV : psV.length = ps.length := by show ((ps.zip vs).map _).length = _; rw [List.length_map, zl]
  have lK : psK.length = ps.length := by show ((ps.zip vs).map _).length = _; rw [List.length_map, zl]
  have ok0 : PlainSeq "tuple" s.heap a (ps.map fun q => Value.ref q.t).toArray ∧ PairItems s.heap (ps.map fun q => Value.ref q.t).toArray Ts psV := by
    refine ⟨⟨oo, n, h1, h2, hod, h3⟩, by simp [lV], fun j k v hj => ?_⟩
    have hj' : ((ps.zip vs).map fun z : Pq × Value => (Value.ref z.1.b, z.2))[j]? = some (k, v) := hj
    rw [List.getElem?_map] at hj'
    obtain ⟨z, hz1, hz2⟩ := Option.map_eq_some_iff.mp hj'
    cases hz2
    obtain ⟨g1, g2, g3⟩ := hat hz1
    have eT : Ts j = z.1.t := by show (match ps[j]? with | some z => z.t | none => 0) = _; rw [g1]
    rw [eT]
    refine ⟨?_, .inl g3⟩
    rw [List.getElem?_toArray, List.getElem?_map, g1]
    rfl
  have keyAll : ∀ h' : Heap, (∀ b o, s.heap.get? b = some o → h'.get? b = some o) → ∀ x ∈ psK, (tupleKind (mixKind X.prog X.w)).is h' x.1 x.2.1 := fun h' hk x hx => by
    obtain ⟨z, hz1, rfl⟩ := List.mem_map.mp (show x ∈ (ps.zip vs).map fun z : Pq × Value => (z.1.k, z.1.b, z.2) from hx)
    have hm := (List.of_mem_zip (show (z.1, z.2) ∈ ps.zip vs from hz1)).1
    obtain ⟨ok, its', n', k1, k2, k3, k4⟩ := key_of I.hok (hps z.1 hm).2
    exact ⟨ok, its', n', hk _ _ k1, k2, k3, k4⟩
  have eK : psK.map (·.1) = ps.map fun q => q.k := by
    show ((ps.zip vs).map _).map _ = _
    rw [List.map_map]
    have : ((fun x : List Key × Addr × Value => x.1) ∘ fun z : Pq × Value => (z.1.k, z.1.b, z.2)) = (fun q : Pq => q.k) ∘ Prod.fst := rfl
    rw [this, ← List.map_map, List.map_fst_zip (by omega)]
  refine call_dict_pairsH (knd := tupleKind (mixKind X.prog X.w)) (ps := psK) (PairArg.tuple a (ps.map fun q => Value.ref q.t).toArray Ts psV) (I.ok.hd hc) (show X.A.in1.in1.units < cLine from (by show X.A.units + 1 + 1 < cLine; omega)) ok0
    ⟨by rw [lK, lV], fun i key v hr => ?_⟩ (fun h' hk x hx => ?_) (by rw [lV]; exact hz) fun h' tk hd hk => ?_
  · have hr' : ((ps.zip vs).map fun z : Pq × Value => (Value.ref z.1.b, z.2))[i]? = some (key, v) := hr
    rw [List.getElem?_map] at hr'
    obtain ⟨z, hz1, hz2⟩ := Option.map_eq_some_iff.mp hr'
    cases hz2
    refine ⟨z.1.k, z.1.b, ?_, rfl⟩
    show ((ps.zip vs).map fun z : Pq × Value => (z.1.k, z.1.b, z.2))[i]? = _
    rw [List.getElem?_map, hz1]
    rfl
  · obtain ⟨z, hz1, rfl⟩ := List.mem_map.mp (show x ∈ (ps.zip vs).map fun z : Pq × Value => (z.1.k, z.1.b, z.2) from hx)
    have hm := (List.of_mem_zip (show (z.1, z.2) ∈ ps.zip vs from hz1)).1
    obtain ⟨ok, its', n', k1, k2, k3, k4⟩ := key_of I.hok (hps z.1 hm).2
    exact ⟨ok, its', n', hk _ _ (Nat.ne_of_lt (Heap.lt_size k1)) (fun z => nomatch z) k1, k2, k3, k4⟩
  · have hk' : ∀ b o, s.heap.get? b = some o → h'.get? b = some o := fun b o e => hk b o (fun z => nomatch z) e
    rw [storedAll_nodup (acc := []) (by rw [List.nil_append, eK]; exact hnd), List.nil_append] at hd
    obtain ⟨od, es, ep, d1, d2, d3, d4, d5, d6⟩ := hd
    have hm : (s.heap.objs.size == sysModules) = false := beq_eq_false_iff_ne.mpr (Nat.ne_of_gt I.big)
    refine ⟨.ref s.heap.objs.size, upd H s.heap.objs.size (.dT (ps.map fun q => (q.k, q.v))), I.laid (t' := tk) hk' (Nat.le_refl _) ?_, rfl, q _ (I.hok.fresh (Nat.le_refl _))⟩
    refine ⟨by rw [List.length_map]; exact hz, hm, psK, ?_, od, es, ep, d1, d2, d3, d4, d6⟩
    have key : ∀ (ps : List Pq) (vs : List Value), Paired (fun (q : Pq) (u : Value) => RelV q.v u ∧ s.heap.IsTuple q.t #[.ref q.b, u]) ps vs → (∀ q ∈ ps, H q.b = some (.tup (q.k.map kV))) →
        Paired (fun (p : List Key × V) (q : List Key × Addr × Value) => p.1 = q.1 ∧ (upd H s.heap.objs.size (.dT (ps.map fun q => (q.k, q.v)))) q.2.1 = some (.tup (p.1.map kV)) ∧ RelV p.2 q.2.2) (ps.map fun q => (q.k, q.v)) ((ps.zip vs).map fun z => (z.1.k, z.1.b, z.2)) := by
      intro ps0 vs0 hp hb
      have gen : ∀ (d : HO) (ps : List Pq) (vs : List Value), Paired (fun (q : Pq) (u : Value) => RelV q.v u ∧ s.heap.IsTuple q.t #[.ref q.b, u]) ps vs → (∀ q ∈ ps, H q.b = some (.tup (q.k.map kV))) →
          Paired (fun (p : List Key × V) (q : List Key × Addr × Value) => p.1 = q.1 ∧ (upd H s.heap.objs.size d) q.2.1 = some (.tup (p.1.map kV)) ∧ RelV p.2 q.2.2) (ps.map fun q => (q.k, q.v)) ((ps.zip vs).map fun z => (z.1.k, z.1.b, z.2)) := by
        intro d ps vs hp
        induction hp with
        | nil => intro _; exact .nil
        | @cons q u r us hq t ih =>
          intro hb
          refine .cons ⟨rfl, ?_, hq.1⟩ (ih fun z hz => hb z (by simp [hz]))
          have e := hb q (by simp)
          rw [upd_ne (ne_of_none e (I.hok.fresh (Nat.le_refl _)))]
          exact e
      exact gen _ ps0 vs0 hp hb
    exact key ps vs hvs fun q hq => (hps q hq).2
end Nf

set_option Elab.async false
set_option linter.all false
set_option maxRecDepth 100000
namespace Nf
open PySem L2
/-! ### paths are all unlike -/
theorem nod_nodup {f : Str → Prop} : ∀ {n : Nat} {s : Say} (p : List Int), Say.ok f n s → ((s.nod p).map Prod.fst).Nodup
  | 0, _, _, h => h.elim
  | n + 1, s, p, h => by
    have ho := Say.ok_parts h
    have pre : ∀ (ps : List Say) (k : Nat), (∀ q ∈ ps, Say.ok f n q) → ∀ x ∈ (ndAll (kids p k ps)).map Prod.fst, ∃ (i : Nat) (r : List Int), k ≤ i ∧ x = p ++ [(i : Int)] ++ r := by
      intro ps k hq x hx
      obtain ⟨z, hz, rfl⟩ := List.mem_map.mp hx
      unfold ndAll at hz
      obtain ⟨y, hy, hzy⟩ := List.mem_flatMap.mp hz
      obtain ⟨i, hi⟩ := List.getElem?_of_mem hy
      rw [kids_get] at hi
      obtain ⟨s', hs', rfl⟩ := Option.map_eq_some_iff.mp hi
      obtain ⟨r, hr⟩ := nod_pre _ (hq s' (List.mem_of_getElem? hs')) z hzy
      exact ⟨k + i, r, by omega, hr⟩
    have key : ∀ (ps : List Say) (k : Nat), (∀ q ∈ ps, Say.ok f n q) → ((ndAll (kids p k ps)).map Prod.fst).Nodup := by
      intro ps
      induction ps with
      | nil => intro k _; exact List.nodup_nil
      | cons s r ih =>
        intro k hq
        have e : ndAll (kids p k (s :: r)) = s.nod (p ++ [(k : Int)]) ++ ndAll (kids p (k + 1) r) := rfl
        rw [e, List.map_append, List.nodup_append]
        refine ⟨nod_nodup _ (hq s (by simp)), ih (k + 1) fun q hm => hq q (by simp [hm]), fun x hx y hy e => ?_⟩
        subst e
        obtain ⟨i, r1, hi, h1⟩ := pre r (k + 1) (fun q hm => hq q (by simp [hm])) x hy
        obtain ⟨z, hz, rfl⟩ := List.mem_map.mp hx
        obtain ⟨r2, h2⟩ := nod_pre _ (hq s (by simp)) z hz
        rw [h2] at h1
        simp at h1
        omega
    rw [nod_eq, List.map_cons, List.nodup_cons]
    refine ⟨fun hm => ?_, key s.parts 0 ho⟩
    obtain ⟨i, r, _, hr⟩ := pre s.parts 0 ho _ hm
    have := congrArg List.length hr
    simp at this
/-! ### nodes as entries of a dict -/
def pk (p : List Int) : List Key := p.map Sum.inl
theorem pk_inj {a b : List Int} (h : pk a = pk b) : a = b := by
  unfold pk at h
  exact (List.map_inj_right (fun _ _ e => Sum.inl.inj e)).mp h
theorem pk_kV (p : List Int) : (pk p).map kV = p.map V.int := by
  unfold pk
  rw [List.map_map]
  rfl
structure PqOk (H : Hp) (q : Pq) (z : Nd) : Prop where
  t : H q.t = some (.tup [.ref q.b, q.v])
  b : H q.b = some (.tup (q.k.map kV))
  k : q.k = pk z.1
  v : Is H q.v z.2.da
theorem pqs_of {H : Hp} : ∀ {xs : List V} {l : List Nd}, IsA H xs (l.map ndDa) → ∃ ps : List Pq, xs = ps.map (fun q => V.ref q.t) ∧ Paired (PqOk H) ps l
  | _, [], h => by cases h; exact ⟨[], rfl, .nil⟩
  | _, z :: l, h => by
    cases h with
    | cons a b =>
      obtain ⟨ps, rfl, hp⟩ := pqs_of (l := l) b
      obtain ⟨a', b', y, pxs, rfl, h1, h2, h3, h4⟩ := is_nd a
      refine ⟨⟨a', b', pk z.1, y⟩ :: ps, rfl, .cons ⟨h1, ?_, rfl, h4⟩ hp⟩
      rw [pk_kV, ← ints_of h3]
      exact h2
theorem pq_mem {H : Hp} : ∀ {ps : List Pq} {l : List Nd}, Paired (PqOk H) ps l → ∀ q ∈ ps, ∃ z, PqOk H q z
  | _, _, .cons a b, q, hq => by
    rcases List.mem_cons.mp hq with rfl | h
    · exact ⟨_, a⟩
    · exact pq_mem b q h
theorem pq_keys {H : Hp} : ∀ {ps : List Pq} {l : List Nd}, Paired (PqOk H) ps l → (ps.map fun q => q.k) = (l.map Prod.fst).map pk
  | _, _, .nil => rfl
  | _, _, .cons a b => by rw [List.map_cons, List.map_cons, List.map_cons, pq_keys b, a.k]
theorem pq_nodup {H : Hp} {ps : List Pq} {l : List Nd} (h : Paired (PqOk H) ps l) (hn : (l.map Prod.fst).Nodup) : (ps.map fun q => q.k).Nodup := by
  rw [pq_keys h]
  exact List.pairwise_map.mpr (hn.imp fun h e => h (pk_inj e))
theorem val_nd {H : Hp} {p : List Int} : ∀ {ps : List Pq} {l : List Nd}, Paired (PqOk H) ps l → (ndAt l p = none ∧ valV (ps.map fun q => (q.k, q.v)) (pk p) = none) ∨ ∃ s v, ndAt l p = some s ∧ valV (ps.map fun q => (q.k, q.v)) (pk p) = some v ∧ Is H v s.da
  | _, _, .nil => .inl ⟨rfl, rfl⟩
  | q :: ps, z :: l, .cons a b => by
    by_cases e : z.1 = p
    · refine .inr ⟨z.2, q.v, ?_, ?_, a.v⟩
      · simp [ndAt, e]
      · rw [List.map_cons]
        exact valV_pos (by show q.k = pk p; rw [a.k, e])
    · have e1 : ndAt (z :: l) p = ndAt l p := by simp [ndAt, e]
      have e2 : valV ((q :: ps).map fun q => (q.k, q.v)) (pk p) = valV (ps.map fun q => (q.k, q.v)) (pk p) := by
        rw [List.map_cons]
        exact valV_neg (fun h => e (pk_inj (by rw [← a.k]; exact h)))
      rw [e1, e2]
      exact val_nd b
theorem PqOk.mono {H H' : Hp} (k : TupS H H') : ∀ {ps : List Pq} {l : List Nd}, Paired (PqOk H) ps l → Paired (PqOk H') ps l
  | _, _, .nil => .nil
  | _, _, .cons a b => .cons ⟨k _ _ a.t, k _ _ a.b, a.k, a.v.mono k⟩ (PqOk.mono k b)
/-! ### the letters -/
theorem letters_codes : (Str.ofString "abcdefghijklmnopqrstuvwxyz").cps.toList = (List.range 26).map (97 + ·) := by decide +kernel
theorem letter_at {i : Int} (h0 : 0 ≤ i) (h1 : i < 26) : atI (Str.ofString "abcdefghijklmnopqrstuvwxyz").cps.toList i = some (97 + i.toNat) := by
  rw [letters_codes]
  unfold atI ixN
  rw [if_pos h0, if_pos (by simpa using h1)]
  show ((List.range 26).map (97 + ·))[i.toNat]? = _
  rw [List.getElem?_map, List.getElem?_range (by omega)]
  rfl
theorem lookup_fillOf : ∀ {fs : Fl}, (fs.map Prod.fst).Nodup → (fs.map Prod.fst).map (fillOf fs) = fs := by
  intro fs hn
  have key : ∀ (gs hs : Fl), (∀ q ∈ gs, hs.lookup q.1 = some q.2) → (gs.map Prod.fst).map (fillOf hs) = gs := by
    intro gs hs h
    induction gs with
    | nil => rfl
    | cons q r ih =>
      rw [List.map_cons, List.map_cons, ih fun z hz => h z (by simp [hz])]
      unfold fillOf
      rw [h q (by simp)]
      rfl
  refine key fs fs ?_
  clear key
  induction fs with
  | nil => intro q hq; cases hq
  | cons z r ih =>
    intro q hq
    rw [List.map_cons, List.nodup_cons] at hn
    rcases List.mem_cons.mp hq with rfl | h
    · simp [List.lookup]
    · have hne : q.1 ≠ z.1 := fun e => hn.1 (e ▸ List.mem_map.mpr ⟨q, h, rfl⟩)
      have e0 : (q.1 == z.1) = false := beq_eq_false_iff_ne.mpr hne
      obtain ⟨z1, z2⟩ := z
      simp only [List.lookup, e0]
      exact ih hn.2 q h
end Nf

set_option Elab.async false
set_option linter.all false
set_option maxRecDepth 100000
namespace Nf
open PySem L2
def top (i : Nat) : Stmt := PySem.Challenge.pw_needfill_k05_whole_fitted_and_filled.main.body.getD i (.Pass ⟨0, 0, 0, 0⟩)
abbrev FnP (K : PySem.W.Frag) (x : Str) (st : Stmt) (f : Addr) (fd : FuncData) : Prop := FunD K x x (defArgs st) (defBody st) (defScope st) [] [] f fd
/-- a def that stands where it is called -/
structure Cal (K : PySem.W.Frag) (mg : Str → Option Value) (x : Str) (st : Stmt) (ps : List Str) (f : Addr) (fd : FuncData) : Prop where
  F : FnP K x st f fd
  m : mg x = some (.ref f)
  b : Binds K fd ps []
/-- the built-ins' names are free -/
structure Bt (mg : Str → Option Value) : Prop where
  t_len : mg "len" = none
  t_abs : mg "abs" = none
  t_range : mg "range" = none
  t_zip : mg "zip" = none
  t_isinstance : mg "isinstance" = none
  t_all : mg "all" = none
  t_tuple : mg "tuple" = none
  t_str : mg "str" = none
  t_int : mg "int" = none
  t_bool : mg "bool" = none
  t_enumerate : mg "enumerate" = none
  t_list : mg "list" = none
  t_dict : mg "dict" = none
  t_any : mg "any" = none
section
variable {P : Program} {w : World} {K : PySem.W.Frag} {mg : Str → Option Value} {base : Heap} {f fn : Addr} {fd fnd : FuncData}
/-! ### the deck made -/
abbrev s_deck : Stmt := top 9
abbrev N_deck : List Str := ["_law_script", "_law_digits", "_law_cells", "_law_cell"]
abbrev P_deck : List Str := ["_law_script"]
theorem sc_deck : FnScope N_deck P_deck (defScope s_deck) := ⟨rfl, rfl, rfl, by decide +kernel, rfl, by decide +kernel, by decide +kernel⟩
def spDeck (K : PySem.W.Frag) : Sp := fun vs H Q _ => ∃ (a : Addr) (ns : List Int), vs = [.ref a] ∧ SqL K H a (ns.map V.int) ∧ ns.length ≤ 63 ∧
  ∀ d g c H', Deck H' d g c 0 → Same H H' → H d = none → H g = none → H c = none → Q (.ref d) H'
theorem ok_deck (T : Bt mg) (C_deck : Cal K mg "_law_deck" s_deck P_deck f fd) : FnOk P w K mg base CX0 1 f fd P_deck (spDeck K) := by
  refine C_deck.F.ok sc_deck (fun vs H Q E h => ?_) (fun cdv A outer s H vs Q E hr h => ?_)
  · obtain ⟨a, ns, rfl, _⟩ := h
    rfl
  obtain ⟨a, ns, rfl, hS, h63, q⟩ := h
  refine ⟨_, PSs.nox (pss_cons (ps_set (i := 1) sc_deck.nd rfl (Or.inl rfl) (pe_lst pa_nil))
    (pss_cons (ps_set (i := 2) sc_deck.nd rfl (Or.inl rfl) (pe_lst (pa_cons (pe_callB call_len_seq (by rfl) T.t_len (by decide +kernel) (pa_cons (pv 0) pa_nil)) pa_nil)))
    (pss_cons (ps_for PassesOwn.never (by rfl) (pi_list (pe_slice sl_list (pv 0) po_none (po_some pe_int))) (pg_name (i := 3) sc_deck.nd rfl (Or.inl rfl)) (pss_cons (ps_set (i := 3) sc_deck.nd rfl (Or.inl rfl) (pe_callB call_abs (by rfl) T.t_abs (by decide +kernel) (pa_cons (pv 3) pa_nil)))
    (pss_cons (ps_expr (pe_bm PySem.F.plainAttrs_list PySem.F.slot_list_append PySem.F.type_list_append mt_append (pv 2) (pa_cons (pe_op op_mod (pv 3) pe_int) pa_nil)))
    (pss_one (ps_while PassesOwn.never (PW.pt (pw_and (pt_cmpR op_ge (pv 3) (pe_op op_pow pe_int pe_int) (nomark _)) (pw_and1 (pt_cmpR op_lt (pe_callB call_len_seq (by rfl) T.t_len (by decide +kernel) (pa_cons (pv 1) pa_nil)) pe_int (nomark _))))) (pss_cons (ps_expr (pe_bm PySem.F.plainAttrs_list PySem.F.slot_list_append PySem.F.type_list_append mt_append (pv 1) (pa_cons (pe_op op_mod (pv 3) pe_int) pa_nil)))
    (pss_one (ps_set (i := 3) sc_deck.nd rfl (Or.inl rfl) (pe_op op_fdivW (pv 3) pe_int)))))))))
    (pss_one (ps_ret (pe_lst (pa_cons (pv 1) (pa_cons (pv 2) (pa_cons pe_int pa_nil))))))))), ?_⟩
  have hl : (ns.map V.int).length = ns.length := List.length_map _
  refine ⟨by show 0 ≤ sizeLine; decide, fun g hg => ?_⟩
  have S1 := same_new hg (.lst [])
  refine ⟨_, rfl, a, _, rfl, .inl (S1.seq hS), by show 1 ≤ sizeLine; decide, fun c hc => ?_⟩
  have S2 := S1.new hc (o := .lst [.int (ns.map V.int).length])
  have hgc : g ≠ c := ne_of_none upd_same hc
  refine ⟨_, rfl, _, rfl, a, _, rfl, S2.seq hS, fun p hp => ?_⟩
  have ecut : cutV (ns.map V.int) none (some 63) = ns.map V.int := by
    show ((ns.map V.int).drop 0).take ((HT.sIx (ns.map V.int).length (ns.map V.int).length (some ((63 : Nat) : Int))) - 0) = _
    rw [HT.sIx_nat, hl, List.drop_zero, Nat.sub_zero, Nat.min_eq_right h63]
    exact List.take_of_length_le (by rw [hl]; exact Nat.le_refl _)
  rw [ecut]
  have hg2 : H g = none := hg
  have hcn : H c = none := S1.free hc
  have hpn : H p = none := S2.free hp
  have hpg : g ≠ p := ne_of_none (show (upd (upd H g (.lst [])) c (.lst [.int (ns.map V.int).length])) g = some (.lst []) by rw [upd_ne hgc]; exact upd_same) hp
  have hpc : c ≠ p := ne_of_none upd_same hp
  refine ⟨p, rfl, ⟨_, SqL.of upd_same⟩, for_list (xs := ns.map V.int) (fun i σ H' => ∃ (ds cs : List Int) (x : Option V), σ = [some (.ref a), some (.ref g), some (.ref c), x] ∧ H' g = some (.lst (ds.map V.int)) ∧ H' c = some (.lst (cs.map V.int)) ∧ H' p = some (.lst (ns.map V.int)) ∧ ds.length ≤ 900 ∧ (∀ x ∈ ds, 0 ≤ x ∧ x < MM) ∧ cs.length = i + 1 ∧ (∀ x ∈ cs, 0 ≤ x ∧ x < MM) ∧ Same H H') ?_ ?_ ?_ ?_⟩
  · refine ⟨[], [(ns.length : Int)], _, rfl, ?_, ?_, upd_same, by decide, by simp, rfl, ?_, (S2.new hp)⟩
    · rw [upd_ne hpg, upd_ne hgc]; exact upd_same
    · rw [upd_ne hpc, hl]; exact upd_same
    · intro x hx
      simp only [List.mem_singleton] at hx
      subst hx
      exact ⟨by omega, by show (ns.length : Int) < 2147483629; omega⟩
  · rintro i σ H' _ ⟨ds, cs, x, _, _, _, h3, _⟩
    exact SqL.of h3
  · rintro i x σ H' hx ⟨ds, cs, x0, rfl, h1, h2, h3, hd9, hds, hcl, hcs, hSm⟩
    rw [List.getElem?_map] at hx
    obtain ⟨n, hn, rfl⟩ := Option.map_eq_some_iff.mp hx
    have hin : i < ns.length := (List.getElem?_eq_some_iff.mp hn).1
    refine ⟨_, rfl, n, rfl, ?_⟩
    have h0 : (0 : Int) ≤ (if n < 0 then -n else n) := by split <;> omega
    generalize (if n < 0 then -n else n) = m at h0
    refine ⟨_, rfl, .inl ⟨rfl, _, SqL.of h2⟩, _, rfl, _, _, rfl, rfl, by show (0 : Int) < 2147483629; decide, c, _, _, rfl, rfl, h2, small1000 (by rw [List.length_map, hcl]; omega), ?_⟩
    have S3 : Same H (upd H' c (.lst (cs.map V.int ++ [.int (m % 2147483629)]))) := hSm.mutN hcn
    refine while_by (fun σ H' => ∃ (ds : List Int) (k : Int), σ = [some (.ref a), some (.ref g), some (.ref c), some (.int k)] ∧ 0 ≤ k ∧ H' g = some (.lst (ds.map V.int)) ∧ H' c = some (.lst ((cs ++ [m % 2147483629]).map V.int)) ∧ H' p = some (.lst (ns.map V.int)) ∧ ds.length ≤ 900 ∧ (∀ x ∈ ds, 0 ≤ x ∧ x < MM) ∧ Same H H') (fun σ _ => match σ with | [_, _, _, some (.int k)] => k.toNat | _ => 0) ?_ ?_ ?_
    · refine ⟨ds, m, rfl, h0, ?_, ?_, ?_, hd9, hds, S3⟩
      · rw [upd_ne hgc]; exact h1
      · rw [upd_same, List.map_append]; rfl
      · rw [upd_ne (Ne.symm hpc)]; exact h3
    · rintro σ H1 ⟨es, k, rfl, hk0, e1, e2, e3, he9, hes, hS1⟩
      have fin : (∃ (ds cs : List Int) (x : Option V), ([some (.ref a), some (.ref g), some (.ref c), some (.int k)] : List (Option V)) = [some (.ref a), some (.ref g), some (.ref c), x] ∧ H1 g = some (.lst (ds.map V.int)) ∧ H1 c = some (.lst (cs.map V.int)) ∧ H1 p = some (.lst (ns.map V.int)) ∧ ds.length ≤ 900 ∧ (∀ x ∈ ds, 0 ≤ x ∧ x < MM) ∧ cs.length = (i + 1) + 1 ∧ (∀ x ∈ cs, 0 ≤ x ∧ x < MM) ∧ Same H H1) := by
        refine ⟨es, cs ++ [m % 2147483629], _, rfl, e1, e2, e3, he9, hes, by rw [List.length_append, hcl]; rfl, ?_, hS1⟩
        intro x hx
        rcases List.mem_append.mp hx with hx | hx
        · exact hcs x hx
        · simp only [List.mem_singleton] at hx
          subst hx
          exact mod_range (by decide)
      refine ⟨_, rfl, _, _, rfl, rfl, ⟨by decide, by decide, by decide⟩, _, _, rfl, rfl, _, rfl, ?_⟩
      refine ite2 (fun c1 => ?_) (fun c1 => ?_)
      · have c1' : ((10 : Int) ^ (18 : Int).toNat) ≤ k := of_decide_eq_true c1
        refine ⟨_, rfl, g, _, rfl, .inl (SqL.of e1), _, _, rfl, rfl, _, rfl, ?_⟩
        refine ite2 (fun c2 => ?_) (fun c2 => ?_)
        · have c2' : (((es.map V.int).length : Nat) : Int) < 900 := of_decide_eq_true c2
          rw [List.length_map] at c2'
          refine ⟨_, rfl, .inl ⟨rfl, _, SqL.of e1⟩, _, rfl, _, _, rfl, rfl, by show (0 : Int) < 2147483629; decide, g, _, _, rfl, rfl, e1, small1000 (by rw [List.length_map]; omega), ?_⟩
          refine ⟨_, rfl, _, _, rfl, rfl, wide_div (b := 32) (by decide) (by decide) (by decide) (by decide), ?_⟩
          refine ⟨⟨es ++ [k % 2147483629], k / 2147483629, rfl, ?_, ?_, ?_, ?_, ?_, ?_, hS1.mutN hg2⟩, ?_⟩
          · exact Int.ediv_nonneg hk0 (by decide)
          · rw [upd_same, List.map_append]; rfl
          · rw [upd_ne (Ne.symm hgc)]; exact e2
          · rw [upd_ne (Ne.symm hpg)]; exact e3
          · rw [List.length_append, List.length_singleton]; omega
          · intro x hx
            rcases List.mem_append.mp hx with hx | hx
            · exact hes x hx
            · simp only [List.mem_singleton] at hx
              subst hx
              exact mod_range (by decide)
          · show (k / 2147483629).toNat < k.toNat
            have e18 : ((10 : Int) ^ (18 : Int).toNat) = 1000000000000000000 := by decide
            rw [e18] at c1'
            omega
        · exact fin
      · exact fin
    · exact fun σ H Q Q' hm h => by
        obtain ⟨v, hv, i1, j1, a1, a2, a3, i2, j2, a4, a5, k1, a6, a7⟩ := h
        refine ⟨v, hv, i1, j1, a1, a2, a3, i2, j2, a4, a5, k1, a6, ?_⟩
        revert a7
        refine fun a7 => ?_
        cases k1 with
        | true =>
          obtain ⟨v, hv, p, ys, b1, b2, i3, j3, b3, b4, k2, b5, b6⟩ := (show _ from a7)
          exact ⟨v, hv, p, ys, b1, b2, i3, j3, b3, b4, k2, b5, hm _ _ b6⟩
        | false => exact hm _ _ a7
  · rintro σ H' ⟨ds, cs, x0, rfl, h1, h2, h3, hd9, hds, hcl, hcs, hSm⟩
    refine ⟨_, rfl, _, rfl, by show 3 ≤ sizeLine; decide, fun d hd => ?_⟩
    have hdg : d ≠ g := (ne_of_none h1 hd).symm
    have hdc : d ≠ c := (ne_of_none h2 hd).symm
    refine q d g c _ ⟨hdg, hdc, hgc, ⟨0, upd_same, Nat.le_refl _⟩, ⟨ds, by rw [upd_ne (Ne.symm hdg)]; exact h1, hds⟩, ⟨cs, by rw [upd_ne (Ne.symm hdc)]; exact h2, by omega, by rw [hcl, hl]; omega, hcs⟩⟩ (hSm.new hd) (hSm.free hd) hg2 hcn
theorem dpAll_ints (K : PySem.W.Frag) (H : Hp) : ∀ ds : List Int, DpAll K H (ds.map V.int) (ds.map PyData.int)
  | [] => .nil
  | x :: r => .cons (.int x) (dpAll_ints K H r)
/-! ### the next number of the deck -/
abbrev s_next : Stmt := top 10
abbrev N_next : List Str := ["_law_deck_here", "_law_at", "_law_cell"]
abbrev P_next : List Str := ["_law_deck_here"]
theorem sc_next : FnScope N_next P_next (defScope s_next) := ⟨rfl, rfl, rfl, by decide +kernel, rfl, by decide +kernel, by decide +kernel⟩
def spNext : Sp := fun vs H Q _ => ∃ (d g c : Addr) (n : Nat), vs = [.ref d] ∧ Deck H d g c n ∧ n < 2 ^ 40 ∧
  ∀ k H', 0 ≤ k → k < MM → Deck H' d g c (n + 1) → Keep [d, g, c] H H' → Q (.int k) H'
theorem ok_next (T : Bt mg) (C_next : Cal K mg "_law_next" s_next P_next f fd) : FnOk P w K mg base CX0 1 f fd P_next spNext := by
  refine C_next.F.ok sc_next (fun vs H Q E h => ?_) (fun cdv A outer s H vs Q E hr h => ?_)
  · obtain ⟨d, g, c, n, rfl, _⟩ := h
    rfl
  obtain ⟨d, g, c, n, rfl, D, hn, q⟩ := h
  refine ⟨_, PSs.nox (pss_cons (ps_if (pt_cmpR (op_neD hr.units) (pe_ix ix_list (pv 0) pe_int (fun _ _ => rfl)) (pe_lst pa_nil) (nomark _)) (pss_one (ps_ret (pe_bm PySem.F.plainAttrs_list PySem.F.slot_list_pop PySem.F.type_list_pop mt_popAt (pe_ix ix_list (pv 0) pe_int (fun _ _ => rfl)) (pa_cons pe_int pa_nil)))) pss_nil)
    (pss_cons (ps_set (i := 1) sc_next.nd rfl (Or.inl rfl) (pe_ix ix_list (pv 0) pe_int (fun _ _ => rfl)))
    (pss_cons (ps_asg (pe_op op_add (pv 1) pe_int) (pg_sub (pv 0) pe_int set_list))
    (pss_cons (ps_set (i := 2) sc_next.nd rfl (Or.inl rfl) (pe_op op_add (pe_ix ix_list (pe_ix ix_list (pv 0) pe_int (fun _ _ => rfl)) (pe_op op_mod (pe_op op_add (pv 1) pe_int) (pe_callB call_len_seq (by rfl) T.t_len (by decide +kernel) (pa_cons (pe_ix ix_list (pv 0) pe_int (fun _ _ => rfl)) pa_nil))) (fun _ _ => rfl)) (pe_op op_mul pe_int (pv 1))))
    (pss_one (ps_ret (pe_op op_mod (pe_op op_add (pe_op op_mod (pe_op op_pow (pe_op op_add (pv 2) (pe_op op_mul pe_int (pe_op op_add (pv 1) pe_int))) pe_int) pe_int) (pe_op op_mul pe_int (pv 2))) pe_int))))))), ?_⟩
  obtain ⟨k, h1, hk⟩ := D.hd
  obtain ⟨ds, h2, hds⟩ := D.hg
  obtain ⟨cs, h3, hc0, hc64, hcs⟩ := D.hc
  refine ⟨_, rfl, d, _, _, _, rfl, rfl, SqL.of h1, rfl, ?_⟩
  refine ⟨by show 0 ≤ sizeLine; decide, fun p hp => ?_⟩
  have hpD := D.not_new hp
  have hdp : d ≠ p := ne_of_none h1 hp
  have hgp : g ≠ p := ne_of_none h2 hp
  have hcp : c ≠ p := ne_of_none h3 hp
  have h1' : (upd H p (.lst [])) d = some (.lst [.ref g, .ref c, .int k]) := by rw [upd_ne hdp]; exact h1
  have h2' : (upd H p (.lst [])) g = some (.lst (ds.map V.int)) := by rw [upd_ne hgp]; exact h2
  have h3' : (upd H p (.lst [])) c = some (.lst (cs.map V.int)) := by rw [upd_ne hcp]; exact h3
  have k1 : Keep [d, g, c] H (upd H p (.lst [])) := (Keep.refl _ _).new hp
  refine ⟨.list (ds.map PyData.int), .list [], .lst (SqL.of h2') (dpAll_ints _ _ ds), .lst (SqL.of upd_same) .nil, PySem.W.shaped_ints ds, rfl, _, rfl, ?_⟩
  have ek : PyData.eqv (.list (ds.map PyData.int)) (.list []) = ds.isEmpty := by cases ds <;> rfl
  rw [ek]
  refine ite2 (fun c1 => ?_) (fun c1 => ?_)
  · cases ds with
    | nil => cases c1
    | cons x r =>
      refine ⟨_, rfl, d, _, _, _, rfl, rfl, SqL.of h1', rfl, .inl ⟨rfl, _, SqL.of h2'⟩, g, _, 0, 0, .int x, rfl, rfl, h2', by decide, by decide, ?_, rfl, ?_⟩
      · show (if (0 ≤ (0 : Int) && (0 : Int) < (((x :: r).map V.int).length : Nat)) then some (0 : Int).toNat else none) = some 0
        rw [if_pos]
        · rfl
        · simp
      · refine q x _ (hds x (by simp)).1 (hds x (by simp)).2 ⟨D.ne1, D.ne2, D.ne3, ⟨k, ?_, by omega⟩, ⟨r, ?_, fun y hy => hds y (by simp [hy])⟩, ⟨cs, ?_, hc0, hc64, hcs⟩⟩ (k1.mut (by simp))
        · rw [upd_ne D.ne1]; exact h1'
        · exact upd_same
        · rw [upd_ne (Ne.symm D.ne3)]; exact h3'
  · refine ⟨_, rfl, d, _, _, _, rfl, rfl, SqL.of h1', rfl, ?_⟩
    refine ⟨_, rfl, _, _, rfl, rfl, _, rfl, d, _, _, 2, rfl, rfl, h1', rfl, ?_⟩
    have h1'' : upd (upd H p (.lst [])) d (.lst ([V.ref g, .ref c, .int k].set 2 (.int ((k : Int) + 1)))) d = some (.lst [.ref g, .ref c, .int ((k : Int) + 1)]) := upd_same
    have h3'' : upd (upd H p (.lst [])) d (.lst ([V.ref g, .ref c, .int k].set 2 (.int ((k : Int) + 1)))) c = some (.lst (cs.map V.int)) := by rw [upd_ne (Ne.symm D.ne2)]; exact h3'
    have h2'' : upd (upd H p (.lst [])) d (.lst ([V.ref g, .ref c, .int k].set 2 (.int ((k : Int) + 1)))) g = some (.lst (ds.map V.int)) := by rw [upd_ne (Ne.symm D.ne1)]; exact h2'
    have k2 : Keep [d, g, c] H (upd (upd H p (.lst [])) d (.lst ([V.ref g, .ref c, .int k].set 2 (.int ((k : Int) + 1))))) := k1.mut (by simp)
    generalize upd (upd H p (.lst [])) d (.lst ([V.ref g, .ref c, .int k].set 2 (.int ((k : Int) + 1)))) = H2 at h1'' h2'' h3'' k2
    have hcl : (0 : Int) < (((cs.map V.int).length : Nat) : Int) := by rw [List.length_map]; omega
    obtain ⟨v, hv, hvm⟩ := at_int (ns := cs) (i := ((k : Int) + 1) % (((cs.map V.int).length : Nat) : Int)) (mod_range hcl).1 (by have := (mod_range (k := (k : Int) + 1) hcl).2; rw [List.length_map] at this; rw [List.length_map]; exact this)
    obtain ⟨hv0, hv1⟩ := hcs v hvm
    refine ⟨_, rfl, d, _, _, _, rfl, rfl, SqL.of h1'', rfl, ?_⟩
    refine ⟨_, rfl, _, _, rfl, rfl, ?_⟩
    refine ⟨_, rfl, d, _, _, _, rfl, rfl, SqL.of h1'', rfl, c, _, rfl, .inl (SqL.of h3''), _, _, rfl, rfl, hcl, c, _, _, _, rfl, rfl, SqL.of h3'', hv, ?_⟩
    refine ⟨_, rfl, _, _, rfl, rfl, .inl ⟨by decide, by decide⟩, _, _, rfl, rfl, ?_⟩
    refine ⟨_, rfl, _, rfl, _, _, rfl, rfl, _, _, rfl, rfl, .inl ⟨by decide, by decide⟩, _, _, rfl, rfl, _, _, rfl, rfl, ⟨by decide, by decide, ?_⟩, _, _, rfl, rfl, by show (0 : Int) < 2147483647; decide, ?_⟩
    · show (v + 7 * (k : Int) + 48271 * ((k : Int) + 1)).natAbs < 2 ^ 64
      have : (v : Int) < 2147483629 := hv1
      omega
    · refine ⟨_, rfl, _, _, rfl, rfl, .inl ⟨by decide, by decide⟩, _, _, rfl, rfl, _, _, rfl, rfl, by show (0 : Int) < 2147483629; decide, ?_⟩
      exact q _ _ (mod_range (by decide)).1 (mod_range (by decide)).2 ⟨D.ne1, D.ne2, D.ne3, ⟨k + 1, h1'', by omega⟩, ⟨ds, h2'', hds⟩, ⟨cs, h3'', hc0, hc64, hcs⟩⟩ k2
end
end Nf


set_option Elab.async false
set_option linter.all false
set_option maxRecDepth 100000
namespace Nf
open PySem L2
section
variable {P : Program} {w : World} {K : PySem.W.Frag} {mg : Str → Option Value} {base : Heap} {f fn : Addr} {fd fnd : FuncData}
/-! ### alike -/
local macro_rules | `(tactic| walk_at "isi") => `(tactic| first
  | refine ⟨_, rfl, _, _, _, _, true, rfl, .ty _, (by assumption), kit_ty (by decide +kernel), ?_⟩
  | refine ⟨_, rfl, _, _, _, _, false, rfl, .ty _, (by assumption), kit_ty (by decide +kernel), ?_⟩)
local macro_rules | `(tactic| walk_at "isit") => `(tactic| (walk_at "isi"; refine ⟨_, rfl, ?_⟩; first | refine iteT ?_ | refine iteF ?_))
abbrev s_same : Stmt := top 11
abbrev N_same : List Str := ["_law_found", "_law_due", "_law_one", "_law_other"]
abbrev P_same : List Str := ["_law_found", "_law_due"]
theorem sc_same : FnScope N_same P_same (defScope s_same) := ⟨rfl, rfl, rfl, by decide +kernel, rfl, by decide +kernel, by decide +kernel⟩
def spSame (n : Nat) : Sp := fun vs H Q _ => ∃ (x y : V) (d e : Da), vs = [x, y] ∧ Is H x d ∧ Is H y e ∧ Da.dep n e ∧
  ∀ H', Same H H' → Q (.bl (Da.eq d e)) H'
theorem ok_same (T : Bt mg) (C_same : Cal K mg "_law_same" s_same P_same f fd) : ∀ n : Nat, FnOk P w K mg base CX0 n f fd P_same (spSame n)
  | 0 => fn_never fun vs H Q E ⟨_, _, _, _, _, _, _, h, _⟩ => h
  | n + 1 => by
    have G_same := ok_same T C_same n
    refine C_same.F.ok sc_same (fun vs H Q E h => ?_) (fun cdv A outer s H vs Q E hr h => ?_)
    · obtain ⟨x, y, d, e, rfl, _⟩ := h
      rfl
    obtain ⟨x, y, d, e, rfl, hx, hy, hdep, q⟩ := h
    refine ⟨_, PSs.nox (pss_cons (ps_if (pt_val (pe_callB call_isi (by rfl) T.t_isinstance (by decide +kernel) (pa_cons (pv 1) (pa_cons (pe_bltn (v := .ty "tuple") (by rfl) T.t_tuple (by decide +kernel) rfl) pa_nil)))) (pss_cons (ps_if (PW.pt (pw_or (pt_not (pt_val (pe_callB call_isi (by rfl) T.t_isinstance (by decide +kernel) (pa_cons (pv 0) (pa_cons (pe_bltn (v := .ty "tuple") (by rfl) T.t_tuple (by decide +kernel) rfl) pa_nil))))) (pw_or1 (pt_cmpR op_ne (pe_callB call_len_seq (by rfl) T.t_len (by decide +kernel) (pa_cons (pv 0) pa_nil)) (pe_callB call_len_seq (by rfl) T.t_len (by decide +kernel) (pa_cons (pv 1) pa_nil)) (nomark _))))) (pss_one (ps_ret pe_bl)) pss_nil)
      (pss_one (ps_ret (pe_callB (cr_all rfl) (by rfl) T.t_all (by decide +kernel) (pa_cons (pe_lc (own := [("_law_one", 2), ("_law_other", 3)]) (g := gTup _ 2 (gCons (gName 2) (gCons (gName 3) gNil))) (tt := tYes) (by rfl) sc_same.nd (RZ.pi_zipA (by rfl) T.t_zip (pa_cons (pv 0) (pa_cons (pv 1) pa_nil))) (blkOk_by (own := [("_law_one", 2), ("_law_other", 3)]) (N := N_same) (sc := defScope s_same) (by decide +kernel)) (fun _ _ _ _ _ => (pg_tup rfl (pgs_cons (pg_name (i := 2) sc_same.nd rfl (Or.inl rfl)) (pgs_cons (pg_name (i := 3) sc_same.nd rfl (Or.inl rfl)) pgs_nil)))) (fun _ _ _ _ _ => pts_nil) (fun _ _ _ _ _ => (pe_call G_same (hr.mono (by omega)) (by rfl) C_same.m C_same.F.kp C_same.b .nil pass0 (pa_cons (pv 2) (pa_cons (pv 3) pa_nil))))) pa_nil))))) pss_nil)
      (pss_cons (ps_if (pt_cmpR op_isN (pv 1) pe_non (nomark _)) (pss_one (ps_ret (pe_cmpR op_isN (pv 0) pe_non (nomark _)))) pss_nil)
      (pss_cons (ps_if (PW.pt (pw_or (pt_val (pe_callB call_isi (by rfl) T.t_isinstance (by decide +kernel) (pa_cons (pv 1) (pa_cons (pe_bltn (v := .ty "bool") (by rfl) T.t_bool (by decide +kernel) rfl) pa_nil)))) (pw_or1 (pt_val (pe_callB call_isi (by rfl) T.t_isinstance (by decide +kernel) (pa_cons (pv 0) (pa_cons (pe_bltn (v := .ty "bool") (by rfl) T.t_bool (by decide +kernel) rfl) pa_nil))))))) (pss_one (ps_ret (pe_and (pe_callB call_isi (by rfl) T.t_isinstance (by decide +kernel) (pa_cons (pv 1) (pa_cons (pe_bltn (v := .ty "bool") (by rfl) T.t_bool (by decide +kernel) rfl) pa_nil))) (pe_and (pe_callB call_isi (by rfl) T.t_isinstance (by decide +kernel) (pa_cons (pv 0) (pa_cons (pe_bltn (v := .ty "bool") (by rfl) T.t_bool (by decide +kernel) rfl) pa_nil))) (pe_one (pe_cmpR op_eq (pv 0) (pv 1) (nomark _))))))) pss_nil)
      (pss_cons (ps_if (PW.pt (pw_or (pt_val (pe_callB call_isi (by rfl) T.t_isinstance (by decide +kernel) (pa_cons (pv 1) (pa_cons (pe_bltn (v := .ty "str") (by rfl) T.t_str (by decide +kernel) rfl) pa_nil)))) (pw_or1 (pt_val (pe_callB call_isi (by rfl) T.t_isinstance (by decide +kernel) (pa_cons (pv 0) (pa_cons (pe_bltn (v := .ty "str") (by rfl) T.t_str (by decide +kernel) rfl) pa_nil))))))) (pss_one (ps_ret (pe_and (pe_callB call_isi (by rfl) T.t_isinstance (by decide +kernel) (pa_cons (pv 1) (pa_cons (pe_bltn (v := .ty "str") (by rfl) T.t_str (by decide +kernel) rfl) pa_nil))) (pe_and (pe_callB call_isi (by rfl) T.t_isinstance (by decide +kernel) (pa_cons (pv 0) (pa_cons (pe_bltn (v := .ty "str") (by rfl) T.t_str (by decide +kernel) rfl) pa_nil))) (pe_one (pe_cmpR op_eq (pv 0) (pv 1) (nomark _))))))) pss_nil)
      (pss_one (ps_ret (pe_and (pe_callB call_isi (by rfl) T.t_isinstance (by decide +kernel) (pa_cons (pv 0) (pa_cons (pe_bltn (v := .ty "int") (by rfl) T.t_int (by decide +kernel) rfl) pa_nil))) (pe_one (pe_cmpR op_eq (pv 0) (pv 1) (nomark _)))))))))), ?_⟩
    have q0 := q H (Same.refl H)
    cases hy with
    | non =>
      have ty : TyX K H _ (.type "NoneType") := .base .non
      walk_at "isit"
      refine ⟨_, rfl, rfl, _, rfl, ?_⟩
      refine iteT ?_
      refine ⟨_, rfl, rfl, ?_⟩
      cases hx <;> exact q0
    | bl b =>
      have ty : TyX K H _ (.type "bool") := .base (.bl b)
      cases hx with
      | non =>
        have tx : TyX K H _ (.type "NoneType") := .base .non
        walk_at "isit"
        refine ⟨_, rfl, rfl, _, rfl, ?_⟩
        refine iteF ?_
        walk_at "isit"
        walk_at "isi"
        refine ⟨_, rfl, ?_⟩
        refine iteT ?_
        walk_at "isi"
        refine ⟨_, rfl, ?_⟩
        refine iteF ?_
        exact q0
      | bl b2 =>
        have tx : TyX K H _ (.type "bool") := .base (.bl b2)
        walk_at "isit"
        refine ⟨_, rfl, rfl, _, rfl, ?_⟩
        refine iteF ?_
        walk_at "isit"
        walk_at "isi"
        refine ⟨_, rfl, ?_⟩
        refine iteT ?_
        walk_at "isi"
        refine ⟨_, rfl, ?_⟩
        refine iteT ?_
        refine ⟨_, rfl, _, rfl, rfl, ?_⟩
        cases b <;> cases b2 <;> exact q0
      | int i2 =>
        have tx : TyX K H _ (.type "int") := .base (.int i2)
        walk_at "isit"
        refine ⟨_, rfl, rfl, _, rfl, ?_⟩
        refine iteF ?_
        walk_at "isit"
        walk_at "isi"
        refine ⟨_, rfl, ?_⟩
        refine iteT ?_
        walk_at "isi"
        refine ⟨_, rfl, ?_⟩
        refine iteF ?_
        exact q0
      | str z2 =>
        have tx : TyX K H _ (.type "str") := .base (.str z2)
        walk_at "isit"
        refine ⟨_, rfl, rfl, _, rfl, ?_⟩
        refine iteF ?_
        walk_at "isit"
        walk_at "isi"
        refine ⟨_, rfl, ?_⟩
        refine iteT ?_
        walk_at "isi"
        refine ⟨_, rfl, ?_⟩
        refine iteF ?_
        exact q0
      | tup h1 h2 =>
        have tx : TyX K H _ (.type "tuple") := .base (.tup h1)
        walk_at "isit"
        refine ⟨_, rfl, rfl, _, rfl, ?_⟩
        refine iteF ?_
        walk_at "isit"
        walk_at "isi"
        refine ⟨_, rfl, ?_⟩
        refine iteT ?_
        walk_at "isi"
        refine ⟨_, rfl, ?_⟩
        refine iteF ?_
        exact q0
    | int i =>
      have ty : TyX K H _ (.type "int") := .base (.int i)
      cases hx with
      | non =>
        have tx : TyX K H _ (.type "NoneType") := .base .non
        walk_at "isit"
        refine ⟨_, rfl, rfl, _, rfl, ?_⟩
        refine iteF ?_
        walk_at "isit"
        walk_at "isit"
        walk_at "isit"
        walk_at "isit"
        walk_at "isi"
        refine ⟨_, rfl, ?_⟩
        refine iteF ?_
        exact q0
      | bl b2 =>
        have tx : TyX K H _ (.type "bool") := .base (.bl b2)
        walk_at "isit"
        refine ⟨_, rfl, rfl, _, rfl, ?_⟩
        refine iteF ?_
        walk_at "isit"
        walk_at "isit"
        walk_at "isi"
        refine ⟨_, rfl, ?_⟩
        refine iteF ?_
        exact q0
      | int i2 =>
        have tx : TyX K H _ (.type "int") := .base (.int i2)
        walk_at "isit"
        refine ⟨_, rfl, rfl, _, rfl, ?_⟩
        refine iteF ?_
        walk_at "isit"
        walk_at "isit"
        walk_at "isit"
        walk_at "isit"
        walk_at "isi"
        refine ⟨_, rfl, ?_⟩
        refine iteT ?_
        refine ⟨_, rfl, _, rfl, rfl, ?_⟩
        have e1 : Da.eq (.int i2) (.int i) = decide (V.int i2 = V.int i) := by
          simp [Da.eq]
        rw [e1] at q0
        exact q0
      | str z2 =>
        have tx : TyX K H _ (.type "str") := .base (.str z2)
        walk_at "isit"
        refine ⟨_, rfl, rfl, _, rfl, ?_⟩
        refine iteF ?_
        walk_at "isit"
        walk_at "isit"
        walk_at "isit"
        walk_at "isit"
        walk_at "isi"
        refine ⟨_, rfl, ?_⟩
        refine iteF ?_
        exact q0
      | tup h1 h2 =>
        have tx : TyX K H _ (.type "tuple") := .base (.tup h1)
        walk_at "isit"
        refine ⟨_, rfl, rfl, _, rfl, ?_⟩
        refine iteF ?_
        walk_at "isit"
        walk_at "isit"
        walk_at "isit"
        walk_at "isit"
        walk_at "isi"
        refine ⟨_, rfl, ?_⟩
        refine iteF ?_
        exact q0
    | str z =>
      have ty : TyX K H _ (.type "str") := .base (.str z)
      cases hx with
      | non =>
        have tx : TyX K H _ (.type "NoneType") := .base .non
        walk_at "isit"
        refine ⟨_, rfl, rfl, _, rfl, ?_⟩
        refine iteF ?_
        walk_at "isit"
        walk_at "isit"
        walk_at "isit"
        walk_at "isi"
        refine ⟨_, rfl, ?_⟩
        refine iteT ?_
        walk_at "isi"
        refine ⟨_, rfl, ?_⟩
        refine iteF ?_
        exact q0
      | bl b2 =>
        have tx : TyX K H _ (.type "bool") := .base (.bl b2)
        walk_at "isit"
        refine ⟨_, rfl, rfl, _, rfl, ?_⟩
        refine iteF ?_
        walk_at "isit"
        walk_at "isit"
        walk_at "isi"
        refine ⟨_, rfl, ?_⟩
        refine iteF ?_
        exact q0
      | int i2 =>
        have tx : TyX K H _ (.type "int") := .base (.int i2)
        walk_at "isit"
        refine ⟨_, rfl, rfl, _, rfl, ?_⟩
        refine iteF ?_
        walk_at "isit"
        walk_at "isit"
        walk_at "isit"
        walk_at "isi"
        refine ⟨_, rfl, ?_⟩
        refine iteT ?_
        walk_at "isi"
        refine ⟨_, rfl, ?_⟩
        refine iteF ?_
        exact q0
      | str z2 =>
        have tx : TyX K H _ (.type "str") := .base (.str z2)
        walk_at "isit"
        refine ⟨_, rfl, rfl, _, rfl, ?_⟩
        refine iteF ?_
        walk_at "isit"
        walk_at "isit"
        walk_at "isit"
        walk_at "isi"
        refine ⟨_, rfl, ?_⟩
        refine iteT ?_
        walk_at "isi"
        refine ⟨_, rfl, ?_⟩
        refine iteT ?_
        refine ⟨_, rfl, _, rfl, rfl, ?_⟩
        have e1 : Da.eq (.str z2) (.str z) = decide (V.str z2 = V.str z) := by
          simp [Da.eq]
        rw [e1] at q0
        exact q0
      | tup h1 h2 =>
        have tx : TyX K H _ (.type "tuple") := .base (.tup h1)
        walk_at "isit"
        refine ⟨_, rfl, rfl, _, rfl, ?_⟩
        refine iteF ?_
        walk_at "isit"
        walk_at "isit"
        walk_at "isit"
        walk_at "isi"
        refine ⟨_, rfl, ?_⟩
        refine iteT ?_
        walk_at "isi"
        refine ⟨_, rfl, ?_⟩
        refine iteF ?_
        exact q0
    | @tup b ys es hb hbs =>
      have ty : TyX K H _ (.type "tuple") := .base (.tup hb)
      walk_at "isit"
      cases hx with
      | non =>
        have tx : TyX K H _ (.type "NoneType") := .base .non
        walk_at "isit"
        exact q0
      | bl b2 =>
        have tx : TyX K H _ (.type "bool") := .base (.bl b2)
        walk_at "isit"
        exact q0
      | int b2 =>
        have tx : TyX K H _ (.type "int") := .base (.int b2)
        walk_at "isit"
        exact q0
      | str b2 =>
        have tx : TyX K H _ (.type "str") := .base (.str b2)
        walk_at "isit"
        exact q0
      | @tup a xs ds ha has =>
        have tx : TyX K H _ (.type "tuple") := .base (.tup ha)
        walk_at "isit"
        have lx := has.len
        have ly := hbs.len
        refine ⟨_, rfl, a, _, rfl, .inr (SqT.of ha), _, rfl, b, _, rfl, .inr (SqT.of hb), rfl, _, rfl, ?_⟩
        refine ite2 (fun c => ?_) (fun c => ?_)
        · have c' : xs.length ≠ ys.length := fun e => by
            rw [e] at c
            simp at c
          have e0 : Da.eq (.tup ds) (.tup es) = false := by
            simp only [Da.eq]
            exact Da.eqA_len (by omega)
          rw [e0] at q0
          exact q0
        · have c' : xs.length = ys.length := by
            simp at c
            omega
          have lde : ds.length = es.length := by omega
          have e0 : Da.eq (.tup ds) (.tup es) = ((ds.zip es).map fun p => Da.eq p.1 p.2).all id := by
            simp only [Da.eq]
            exact Da.eqA_zip lde
          rw [e0] at q
          have lz : (ds.zip es).length = xs.length := by rw [List.length_zip]; omega
          refine ⟨_, rfl, _, rfl, a, b, xs, ys, rfl, .inr ⟨SqT.of ha, SqT.of hb, fun D hD => ?_⟩⟩
          refine lc_it (walk_zipT (xs := xs) (ys := ys) rfl) (fun i H' => Same H H' ∧ H' D = some (.lst ((((ds.zip es).map fun p => Da.eq p.1 p.2).take i).map V.bl))) ?_ ?_ ?_ ?_
          · exact ⟨same_new hD _, upd_same⟩
          · rintro i H1 _ ⟨S, _⟩
            exact ⟨SqT.of (S _ _ ha), SqT.of (S _ _ hb)⟩
          · rintro i x H1 H2 hi ⟨S, hacc⟩ ⟨T', x', y', rfl, hT, rfl, hx', hy'⟩
            obtain ⟨d', hd', ix'⟩ := has.getV hx'
            obtain ⟨e', he', iy'⟩ := hbs.getV hy'
            have S2 := S.new hT (o := .tup [x', y'])
            have hDT : D ≠ T' := ne_of_none hacc hT
            refine ⟨T', _, rfl, SqT.of upd_same, rfl, _, _, rfl, _, _, rfl, rfl, rfl, ?_⟩
            refine yes_if ?_
            refine ⟨_, rfl, _, rfl, x', y', d', e', rfl, ix'.mono S2.tups, iy'.mono S2.tups, hdep.2 e' (List.mem_of_getElem? he'), fun H' S' => ?_⟩
            have hzi : (ds.zip es)[i]? = some (d', e') := by
              rw [List.getElem?_zip_eq_some]; exact ⟨hd', he'⟩
            refine ⟨_, S' _ _ (by rw [upd_ne hDT]; exact hacc), ?_, (S2.trans S').mutN hD, ?_⟩
            · have := hdep.1
              refine sz5' ?_
              simp only [List.length_map, List.length_take]
              omega
            · rw [upd_same]
              have hm : ((ds.zip es).map fun p => Da.eq p.1 p.2)[i]? = some (Da.eq d' e') := by
                rw [List.getElem?_map, hzi]; rfl
              rw [List.take_add_one, hm]
              simp
          · rintro H' ⟨S, hacc⟩
            refine ⟨D, ((ds.zip es).map fun p => Da.eq p.1 p.2), rfl, ?_, q _ S⟩
            rw [← c', Nat.min_self, List.take_of_length_le (by rw [List.length_map, lz]; exact Nat.le_refl _)] at hacc
            exact SqL.of hacc
end
end Nf


set_option Elab.async false
set_option linter.all false
set_option maxRecDepth 100000
namespace Nf
open PySem L2
section
variable {P : Program} {w : World} {K : PySem.W.Frag} {mg : Str → Option Value} {base : Heap} {f fn fl fm : Addr} {fd fnd fld fmd : FuncData}
/-! ### a text of letters -/
abbrev s_letters : Stmt := top 12
abbrev N_letters : List Str := ["_law_deck_here", "_law_most", "_law_number", "_law_found", "_law_k"]
abbrev P_letters : List Str := ["_law_deck_here", "_law_most"]
theorem sc_letters : FnScope N_letters P_letters (defScope s_letters) := ⟨rfl, rfl, rfl, by decide +kernel, rfl, by decide +kernel, by decide +kernel⟩
def spLetters : Sp := fun vs H Q _ => ∃ (d g c : Addr) (n : Nat) (m : Nat), vs = [.ref d, .int m] ∧ Deck H d g c n ∧ 1 ≤ m ∧ m ≤ 100 ∧ n + m + 1 < 2 ^ 40 ∧
  ∀ x H', x.length ≤ m → Deck H' d g c (n + m + 1) → Keep [d, g, c] H H' → Q (.str x) H'
theorem ok_letters (T : Bt mg) (C_letters : Cal K mg "_law_letters" s_letters P_letters f fd) (C_next : Cal K mg "_law_next" s_next P_next fn fnd) (G_next : FnOk P w K mg base CX0 1 fn fnd P_next spNext) : FnOk P w K mg base CX0 2 f fd P_letters spLetters := by
  refine C_letters.F.ok sc_letters (fun vs H Q E h => ?_) (fun cdv A outer s H vs Q E hr h => ?_)
  · obtain ⟨d, g, c, n, m, rfl, _⟩ := h
    rfl
  obtain ⟨d, g, c, n, m, rfl, D, hm1, hm, hn, q⟩ := h
  refine ⟨_, PSs.nox (pss_cons (ps_set (i := 2) sc_letters.nd rfl (Or.inl rfl) (pe_call G_next (hr.mono (by omega)) (by rfl) C_next.m C_next.F.kp C_next.b .nil pass0 (pa_cons (pv 0) pa_nil)))
    (pss_cons (ps_set (i := 3) sc_letters.nd rfl (Or.inl rfl) pe_str)
    (pss_cons (ps_for PassesOwn.never (by rfl) (pi_range1 (by rfl) T.t_range (pa_cons (pe_op op_add pe_int (pe_op op_mod (pv 2) (pv 1))) pa_nil)) (pg_name (i := 4) sc_letters.nd rfl (Or.inl rfl)) (pss_one (ps_set (i := 3) sc_letters.nd rfl (Or.inl rfl) (pe_op op_add_str (pv 3) (pe_ix ix_str pe_str (pe_op op_mod (pe_call G_next (hr.mono (by omega)) (by rfl) C_next.m C_next.F.kp C_next.b .nil pass0 (pa_cons (pv 0) pa_nil)) pe_int) (fun _ _ => rfl))))))
    (pss_one (ps_ret (pv 3)))))), ?_⟩
  refine ⟨_, rfl, d, g, c, n, rfl, D, by omega, fun k H1 hk0 hk1 D1 K1 => ?_⟩
  have hpos : (0 : Int) < (m : Int) := by omega
  refine ⟨_, rfl, _, rfl, _, _, rfl, rfl, hpos, _, _, rfl, rfl, _, rfl, ?_, ?_, ?_⟩
  · have := mod_range (k := k) hpos; omega
  · have := mod_range (k := k) hpos; omega
  have hr1 := mod_range (k := k) hpos
  refine for_range (lo := 0) (n := (1 + k % (m : Int)).toNat) (fun i σ H' => ∃ (x : Str) (y : Option V), σ = [some (.ref d), some (.int m), some (.int k), some (.str x), y] ∧ x.length = i ∧ Deck H' d g c (n + 1 + i) ∧ Keep [d, g, c] H H') ?_ ?_ ?_
  · exact ⟨"", _, rfl, rfl, D1, K1⟩
  · rintro i σ H2 hi ⟨x, y, rfl, hx, D2, K2⟩
    refine ⟨_, rfl, _, rfl, d, g, c, n + 1 + i, rfl, D2, by omega, fun k2 H3 hk2 hk3 D3 K3 => ?_⟩
    refine ⟨_, _, rfl, rfl, by show (0 : Int) < 26; decide, ?_⟩
    have hr2 := mod_range (k := k2) (m := 26) (by decide)
    obtain ⟨cc, hcc⟩ := atC (xs := (Str.ofString "abcdefghijklmnopqrstuvwxyz").cps.toList) (i := k2 % 26) hr2.1 (by
      have e : (Str.ofString "abcdefghijklmnopqrstuvwxyz").cps.toList.length = 26 := by decide +kernel
      rw [e]; exact hr2.2)
    refine ⟨_, _, cc, rfl, rfl, by decide +kernel, hcc, _, _, rfl, rfl, ?_, ?_⟩
    · refine sz5 ?_
      show x.length + 1 ≤ 100000
      omega
    · refine ⟨x ++ ⟨#[cc]⟩, _, rfl, ?_, D3, K2.trans K3⟩
      rw [str_len, hx]
      rfl
  · rintro σ H2 ⟨x, y, rfl, hx, D2, K2⟩
    refine ⟨_, rfl, ?_⟩
    exact q x H2 (by omega) (D2.le (by omega)) K2
/-! ### a name -/
abbrev s_name : Stmt := top 13
abbrev N_name : List Str := ["_law_deck_here", "_law_number", "_law_some", "_law_found"]
abbrev P_name : List Str := ["_law_deck_here"]
theorem sc_name : FnScope N_name P_name (defScope s_name) := ⟨rfl, rfl, rfl, by decide +kernel, rfl, by decide +kernel, by decide +kernel⟩
def spName : Sp := fun vs H Q _ => ∃ (d g c : Addr) (n : Nat), vs = [.ref d] ∧ Deck H d g c n ∧ n + 10 < 2 ^ 40 ∧
  ∀ x H', Deck H' d g c (n + 10) → Keep [d, g, c] H H' → Q (.str x) H'
theorem ok_name (T : Bt mg) (C_name : Cal K mg "_law_name" s_name P_name f fd) (C_next : Cal K mg "_law_next" s_next P_next fn fnd) (G_next : FnOk P w K mg base CX0 1 fn fnd P_next spNext)
    (C_letters : Cal K mg "_law_letters" s_letters P_letters fl fld) (G_letters : FnOk P w K mg base CX0 2 fl fld P_letters spLetters) : FnOk P w K mg base CX0 3 f fd P_name spName := by
  refine C_name.F.ok sc_name (fun vs H Q E h => ?_) (fun cdv A outer s H vs Q E hr h => ?_)
  · obtain ⟨d, g, c, n, rfl, _⟩ := h
    rfl
  obtain ⟨d, g, c, n, rfl, D, hn, q⟩ := h
  refine ⟨_, PSs.nox (pss_cons (ps_set (i := 1) sc_name.nd rfl (Or.inl rfl) (pe_call G_next (hr.mono (by omega)) (by rfl) C_next.m C_next.F.kp C_next.b .nil pass0 (pa_cons (pv 0) pa_nil)))
    (pss_cons (ps_set (i := 2) sc_name.nd rfl (Or.inl rfl) (pe_lst (pa_cons pe_str (pa_cons pe_str (pa_cons pe_str (pa_cons pe_str (pa_cons pe_str (pa_cons pe_str (pa_cons pe_str (pa_cons pe_str pa_nil))))))))))
    (pss_cons (ps_if (pt_cmpR op_lt (pe_op op_mod (pv 1) pe_int) pe_int (nomark _)) (pss_one (ps_ret (pe_ix ix_list (pv 2) (pe_op op_mod (pe_op op_fdiv (pv 1) pe_int) pe_int) (fun _ _ => rfl)))) pss_nil)
    (pss_cons (ps_if (pt_cmpR op_eq (pe_op op_mod (pv 1) pe_int) pe_int (nomark _)) (pss_one (ps_ret (pe_callTy call_str_int (by rfl) T.t_str (by decide +kernel) (pa_cons (pe_op op_add pe_int (pe_op op_mod (pe_op op_fdiv (pv 1) pe_int) pe_int)) pa_nil)))) pss_nil)
    (pss_cons (ps_set (i := 3) sc_name.nd rfl (Or.inl rfl) (pe_call G_letters (hr.mono (by omega)) (by rfl) C_letters.m C_letters.F.kp C_letters.b .nil pass0 (pa_cons (pv 0) (pa_cons pe_int pa_nil))))
    (pss_one (ps_ret (pe_ix ix_list (pe_lst (pa_cons (pv 3) (pa_cons pe_str pa_nil))) (pe_callTy call_int1 (by rfl) T.t_int (by decide +kernel) (pa_cons (pe_cmpR op_in_seq (pv 3) (pe_lst (pa_cons pe_str (pa_cons pe_str (pa_cons pe_str (pa_cons pe_str (pa_cons pe_str pa_nil)))))) (by rfl)) pa_nil)) (fun _ _ => rfl))))))))), ?_⟩
  refine ⟨_, rfl, d, g, c, n, rfl, D, by omega, fun k H1 hk0 hk1 D1 K1 => ?_⟩
  refine ⟨by show 8 ≤ sizeLine; decide, fun p hp => ?_⟩
  have D2 := D1.new hp (o := .lst [.str "a", .str "b", .str "ab", .str "ba", .str "kin", .str "sam", .str "eithers", .str "yes"])
  have K2 := K1.new hp (o := .lst [.str "a", .str "b", .str "ab", .str "ba", .str "kin", .str "sam", .str "eithers", .str "yes"])
  have hpp : upd H1 p (.lst [.str "a", .str "b", .str "ab", .str "ba", .str "kin", .str "sam", .str "eithers", .str "yes"]) p = some (.lst ((["a", "b", "ab", "ba", "kin", "sam", "eithers", "yes"] : List Str).map V.str)) := upd_same
  refine ⟨_, rfl, _, _, rfl, rfl, by show (0 : Int) < 8; decide, _, _, rfl, rfl, _, rfl, ?_⟩
  refine ite2 (fun c1 => ?_) (fun c1 => ?_)
  · have hr2 := mod_range (k := k / 8) (m := 8) (by decide)
    obtain ⟨x, hx, _⟩ := at_nat (xs := (["a", "b", "ab", "ba", "kin", "sam", "eithers", "yes"] : List Str)) (f := V.str) hr2.1 hr2.2
    refine ⟨_, rfl, _, rfl, _, _, rfl, rfl, ⟨by decide, by decide⟩, _, _, rfl, rfl, by show (0 : Int) < 8; decide, p, _, _, _, rfl, rfl, SqL.of hpp, hx, ?_⟩
    exact q x _ (D2.le (by omega)) K2
  · refine ⟨_, rfl, _, _, rfl, rfl, by show (0 : Int) < 8; decide, rfl, _, rfl, ?_⟩
    refine ite2 (fun c2 => ?_) (fun c2 => ?_)
    · have hr2 := mod_range (k := k / 8) (m := 999) (by decide)
      refine ⟨_, rfl, _, _, rfl, rfl, ⟨by decide, by decide⟩, _, _, rfl, rfl, by show (0 : Int) < 999; decide, _, _, rfl, rfl, _, rfl, ?_, ?_⟩
      · have h1 : (1 + k / 8 % 999).natAbs < 2 ^ 1920 := Nat.lt_of_lt_of_le (show (1 + k / 8 % 999).natAbs < 2 ^ 10 by omega) (Nat.pow_le_pow_right (by decide) (by decide))
        exact PySem.Flt.log2_lt_of (by decide) h1
      · exact q _ _ (D2.le (by omega)) K2
    · refine ⟨_, rfl, d, g, c, n + 1, 8, rfl, D2, by decide, by decide, by omega, fun x H3 hx D3 K3 => ?_⟩
      refine ⟨_, rfl, by show 2 ≤ sizeLine; decide, fun p2 hp2 => ?_⟩
      have D4 := D3.new hp2 (o := .lst [.str x, .str "z"])
      have K4 := (K2.trans K3).new hp2 (o := .lst [.str x, .str "z"])
      have hpp2 : upd H3 p2 (.lst [.str x, .str "z"]) p2 = some (.lst [.str x, .str "z"]) := upd_same
      generalize upd H3 p2 (.lst [.str x, .str "z"]) = H4 at D4 K4 hpp2
      refine ⟨_, rfl, by show 5 ≤ sizeLine; decide, fun p3 hp3 => ?_⟩
      have D5 := D4.new hp3 (o := .lst [.str "kind", .str "def", .str "either", .str "same", .str "truth"])
      have K5 := K4.new hp3 (o := .lst [.str "kind", .str "def", .str "either", .str "same", .str "truth"])
      have hpp3 : upd H4 p3 (.lst [.str "kind", .str "def", .str "either", .str "same", .str "truth"]) p2 = some (.lst [.str x, .str "z"]) := by rw [upd_ne (ne_of_none hpp2 hp3)]; exact hpp2
      refine ⟨p3, _, rfl, .inl (SqL.of upd_same), rfl, rfl, .inr ⟨_, rfl, ?_⟩⟩
      cases inV (.str x) [.str "kind", .str "def", .str "either", .str "same", .str "truth"] with
      | true =>
        refine ⟨p2, _, _, .str "z", rfl, rfl, SqL.of hpp3, rfl, ?_⟩
        exact q _ _ (D5.le (by omega)) K5
      | false =>
        refine ⟨p2, _, _, .str x, rfl, rfl, SqL.of hpp3, rfl, ?_⟩
        exact q _ _ (D5.le (by omega)) K5
end
end Nf


set_option Elab.async false
set_option linter.all false
set_option maxRecDepth 100000
namespace Nf
open PySem L2
section
variable {P : Program} {w : World} {K : PySem.W.Frag} {mg : Str → Option Value} {base : Heap} {f fn fm : Addr} {fd fnd fmd : FuncData}
/-! ### a saying -/
abbrev s_any : Stmt := top 14
abbrev N_any : List Str := ["_law_deck_here", "_law_heads", "_law_left", "_law_number", "_law_word", "_law_one", "_law_many", "_law_head", "_law_k"]
abbrev P_any : List Str := ["_law_deck_here", "_law_heads", "_law_left"]
theorem sc_any : FnScope N_any P_any (defScope s_any) := ⟨rfl, rfl, rfl, by decide +kernel, rfl, by decide +kernel, by decide +kernel⟩
def spAny (m : Nat) : Sp := fun vs H Q _ => ∃ (d g c hs : Addr) (n : Nat) (ws : List Str) (left : Int), vs = [.ref d, .ref hs, .int left] ∧ Deck H d g c n ∧ H hs = some (.lst (ws.map V.str)) ∧ hs ∉ [d, g, c] ∧ 0 < ws.length ∧
  (∀ x ∈ ws, x ∈ heads6) ∧ 1 ≤ left ∧ left ≤ m ∧ n + cost m < 2 ^ 40 ∧
  ∀ v s H', Deck H' d g c (n + cost m) → Keep [d, g, c] H H' → Is H' v s.da → Say.ok (fun x => x ∈ ws ∨ x = "made") left.toNat s → Q v H'
theorem ok_any (T : Bt mg) (C_any : Cal K mg "_law_any" s_any P_any f fd) (C_next : Cal K mg "_law_next" s_next P_next fn fnd) (G_next : FnOk P w K mg base CX0 1 fn fnd P_next spNext)
    (C_name : Cal K mg "_law_name" s_name P_name fm fmd) (G_name : FnOk P w K mg base CX0 3 fm fmd P_name spName) : ∀ m : Nat, FnOk P w K mg base CX0 (m + 3) f fd P_any (spAny m)
  | 0 => fn_never fun vs H Q E ⟨_, _, _, _, _, _, _, _, _, _, _, _, _, h1, h2, _⟩ => by omega
  | m + 1 => by
    have G_any := ok_any T C_any C_next G_next C_name G_name m
    refine C_any.F.ok sc_any (fun vs H Q E h => ?_) (fun cdv A outer s H vs Q E hr h => ?_)
    · obtain ⟨d, g, c, hs, n, ws, left, rfl, _⟩ := h
      rfl
    obtain ⟨d, g, c, hs, n, ws, left, rfl, D, hh, hns, hw0, hw6, hl1, hlm, hn, q⟩ := h
    refine ⟨_, PSs.nox (pss_cons (ps_set (i := 3) sc_any.nd rfl (Or.inl rfl) (pe_call G_next (hr.mono (by omega)) (by rfl) C_next.m C_next.F.kp C_next.b .nil pass0 (pa_cons (pv 0) pa_nil)))
      (pss_cons (ps_set (i := 4) sc_any.nd rfl (Or.inl rfl) (pe_ix ix_list (pv 1) (pe_op op_mod (pv 3) (pe_callB call_len_seq (by rfl) T.t_len (by decide +kernel) (pa_cons (pv 1) pa_nil))) (fun _ _ => rfl)))
      (pss_cons (ps_if (PW.pt (pw_and (pt_cmpR op_lt (pv 2) pe_int (nomark _)) (pw_and1 (pt_cmpR op_notIn_seq (pv 4) (pe_lst (pa_cons pe_str (pa_cons pe_str pa_nil))) (by rfl))))) (pss_one (ps_set (i := 4) sc_any.nd rfl (Or.inl rfl) (pe_ix ix_list (pe_lst (pa_cons pe_str (pa_cons pe_str pa_nil))) (pe_callTy call_int1 (by rfl) T.t_int (by decide +kernel) (pa_cons (pe_or (pe_cmpR op_notIn_seq pe_str (pv 1) (by rfl)) (pe_one (pe_cmpR op_eq (pe_op op_mod (pe_op op_fdiv (pv 3) pe_int) pe_int) pe_int (nomark _)))) pa_nil)) (fun _ _ => rfl)))) pss_nil)
      (pss_cons (ps_if (pt_cmpR op_eq (pv 4) pe_str (nomark _)) (pss_one (ps_ret (pe_tup (pa_cons pe_str pa_nil)))) pss_nil)
      (pss_cons (ps_if (pt_cmpR op_eq (pv 4) pe_str (nomark _)) (pss_one (ps_ret (pe_tup (pa_cons pe_str (pa_cons (pe_call G_name (hr.mono (by omega)) (by rfl) C_name.m C_name.F.kp C_name.b .nil pass0 (pa_cons (pv 0) pa_nil)) pa_nil))))) pss_nil)
      (pss_cons (ps_if (pt_cmpR op_in_seq (pv 4) (pe_lst (pa_cons pe_str (pa_cons pe_str pa_nil))) (by rfl)) (pss_cons (ps_set (i := 5) sc_any.nd rfl (Or.inl rfl) (pe_call G_any (hr.mono (by omega)) (by rfl) C_any.m C_any.F.kp C_any.b .nil pass0 (pa_cons (pv 0) (pa_cons (pv 1) (pa_cons (pe_op op_sub (pv 2) pe_int) pa_nil)))))
      (pss_one (ps_ret (pe_tup (pa_cons (pv 4) (pa_cons (pv 5) (pa_cons (pe_call G_any (hr.mono (by omega)) (by rfl) C_any.m C_any.F.kp C_any.b .nil pass0 (pa_cons (pv 0) (pa_cons (pv 1) (pa_cons (pe_op op_sub (pv 2) pe_int) pa_nil)))) pa_nil))))))) pss_nil)
      (pss_cons (ps_set (i := 6) sc_any.nd rfl (Or.inl rfl) (pe_op op_mul (pe_ix ix_list (pe_lst (pa_cons pe_int (pa_cons pe_int (pa_cons pe_int (pa_cons pe_int (pa_cons pe_int (pa_cons pe_int pa_nil))))))) (pe_op op_mod (pe_op op_fdiv (pv 3) pe_int) pe_int) (fun _ _ => rfl)) (pe_callTy call_int1 (by rfl) T.t_int (by decide +kernel) (pa_cons (pe_cmpR op_gt (pv 2) pe_int (nomark _)) pa_nil))))
      (pss_cons (ps_set (i := 7) sc_any.nd rfl (Or.inl rfl) (pe_ix ix_list (pe_lst (pa_cons pe_str (pa_cons pe_str (pa_cons pe_str (pa_cons pe_str (pa_cons pe_str (pa_cons pe_str (pa_cons pe_str pa_nil)))))))) (pe_op op_mod (pe_op op_fdiv (pv 3) pe_int) pe_int) (fun _ _ => rfl)))
      (pss_one (ps_ret (pe_tup (pa_cons (pv 4) (pa_cons (pv 7) (pa_cons (pe_callTy call_tuple_of (by rfl) T.t_tuple (by decide +kernel) (pa_cons (pe_lc (own := [("_law_k", 8)]) (g := gName 8) (tt := tYes) (by rfl) sc_any.nd (pi_range1 (by rfl) T.t_range (pa_cons (pv 6) pa_nil)) (blkOk_by (own := [("_law_k", 8)]) (N := N_any) (sc := defScope s_any) (by decide +kernel)) (fun _ _ _ _ _ => (pg_name (i := 8) sc_any.nd rfl (Or.inl rfl))) (fun _ _ _ _ _ => pts_nil) (fun _ _ _ _ _ => (pe_call G_any (hr.mono (by omega)) (by rfl) C_any.m C_any.F.kp C_any.b .nil pass0 (pa_cons (pv 0) (pa_cons (pv 1) (pa_cons (pe_op op_sub (pv 2) pe_int) pa_nil)))))) pa_nil)) pa_nil)))))))))))))), ?_⟩
    have cp := cost_pos m
    rw [cost_succ] at hn q
    have hlw : (0 : Int) < (((ws.map V.str).length : Nat) : Int) := by rw [List.length_map]; omega
    refine ⟨_, rfl, d, g, c, n, rfl, D, by omega, fun k H1 hk0 hk1 D1 K1 => ?_⟩
    have hh1 := K1.at hh hns
    have hr1 := mod_range (k := k) hlw
    obtain ⟨x0, hx0, hx0m, _⟩ := at_nat (xs := ws) (f := V.str) hr1.1 (by have := hr1.2; rw [List.length_map] at this; rw [List.length_map]; exact this)
    refine ⟨_, rfl, _, rfl, _, rfl, hs, _, rfl, .inl (SqL.of hh1), _, _, rfl, rfl, hlw, hs, _, _, _, rfl, rfl, SqL.of hh1, hx0, ?_⟩
    refine g_name ?_
    dsimp only
    refine seq_cut (t1 := tIfS _ _ _) (fun σ' H' => ∃ x : Str, σ' = [some (.ref d), some (.ref hs), some (.int left), some (.int k), some (.str x), none, none, none, none] ∧ Deck H' d g c (n + 1) ∧ Keep [d, g, c] H H' ∧ (x ∈ ws ∨ x = "made") ∧ (left < 2 → x = "name" ∨ x = "skip" ∨ x = "made")) ?_ ?_
    · rintro σ' H2 ⟨x, rfl, D2, K2, hxw, hx2⟩
      obtain ⟨j, hj⟩ : ∃ j, left.toNat = j + 1 := ⟨left.toNat - 1, by omega⟩
      rw [hj] at q
      have hh2 := K2.at hh hns
      have hx6 : x ∈ heads6 := by
        rcases hxw with h | h
        · exact hw6 x h
        · rw [h]; simp [heads6]
      rcases heads6_cases hx6 with rfl | rfl | ⟨c0, rfl⟩ | ⟨c0, rfl⟩
      · refine ⟨_, rfl, rfl, _, rfl, ?_⟩
        refine ifT rfl ?_
        refine ⟨by show 1 ≤ sizeLine; decide, fun t ht => ?_⟩
        exact q _ .skip _ ((D2.new ht).le (by omega)) (K2.new ht) (mk_skip upd_same) hxw
      · refine ⟨_, rfl, rfl, _, rfl, ?_⟩
        refine ifF (by decide) ?_
        refine ⟨_, rfl, rfl, _, rfl, ?_⟩
        refine ifT rfl ?_
        refine ⟨_, rfl, d, g, c, n + 1, rfl, D2, by omega, fun y H3 D3 K3 => ⟨by show 2 ≤ sizeLine; decide, fun t ht => ?_⟩⟩
        exact q _ (.name y) _ ((D3.new ht).le (by omega)) ((K2.trans K3).new ht) (mk_name upd_same) hxw
      · refine ⟨_, rfl, rfl, _, rfl, ?_⟩
        refine ifF (by cases c0 <;> decide) ?_
        refine ⟨_, rfl, rfl, _, rfl, ?_⟩
        refine ifF (by cases c0 <;> decide) ?_
        have hl2 : 2 ≤ left := by
          by_cases z : left < 2
          · rcases hx2 z with h | h | h <;> cases c0 <;> exact absurd h (by decide)
          · omega
        refine ⟨_, rfl, by show 2 ≤ sizeLine; decide, fun p hp => ⟨p, _, rfl, .inl (SqL.of upd_same), rfl, rfl, _, rfl, ?_⟩⟩
        refine ifBT (by cases c0 <;> decide) ?_
        have D3 := D2.new hp (o := .lst [.str "either", .str "same"])
        have K3 := K2.new hp (o := .lst [.str "either", .str "same"])
        generalize upd H2 p (.lst [.str "either", .str "same"]) = H3 at D3 K3
        refine ⟨_, rfl, _, rfl, _, rfl, _, _, rfl, rfl, d, g, c, hs, n + 1, ws, left - 1, rfl, D3, K3.at hh hns, hns, hw0, hw6, by omega, by omega, by omega, fun v1 s1 H4 D4 K4 I1 o1 => ?_⟩
        have K4' := K3.trans K4
        refine ⟨_, rfl, _, rfl, _, rfl, _, rfl, _, rfl, _, _, rfl, rfl, d, g, c, hs, n + 1 + cost m, ws, left - 1, rfl, D4, K4'.at hh hns, hns, hw0, hw6, by omega, by omega, by omega, fun v2 s2 H5 D5 K5 I2 o2 => ?_⟩
        have I1' := K5.is D4.noTup I1
        refine ⟨by show 3 ≤ sizeLine; decide, fun t ht => ?_⟩
        have N := (same_new ht (.tup [.str (hTwo c0), v1, v2])).tups
        have ej : (left - 1).toNat = j := by omega
        rw [ej] at o1 o2
        exact q _ (.two c0 s1 s2) _ ((D5.new ht).le (by omega)) ((K4'.trans K5).new ht) (mk_two upd_same (I1'.mono N) (I2.mono N)) ⟨hxw, o1, o2⟩
      · refine ⟨_, rfl, rfl, _, rfl, ?_⟩
        refine ifF (by cases c0 <;> decide) ?_
        refine ⟨_, rfl, rfl, _, rfl, ?_⟩
        refine ifF (by cases c0 <;> decide) ?_
        refine ⟨_, rfl, by show 2 ≤ sizeLine; decide, fun p hp => ⟨p, _, rfl, .inl (SqL.of upd_same), rfl, rfl, _, rfl, ?_⟩⟩
        refine ifBF (by cases c0 <;> decide) ?_
        have D3 := D2.new hp (o := .lst [.str "either", .str "same"])
        have K3 := K2.new hp (o := .lst [.str "either", .str "same"])
        generalize upd H2 p (.lst [.str "either", .str "same"]) = H3 at D3 K3
        have hr16 := mod_range (k := k / 16) (m := 6) (by decide)
        obtain ⟨v, hv, hvm, _⟩ := at_nat (xs := ([0, 1, 1, 2, 2, 3] : List Int)) (f := V.int) hr16.1 hr16.2
        have hv3 : 0 ≤ v ∧ v ≤ 3 := by
          simp only [List.mem_cons, List.not_mem_nil, or_false] at hvm
          omega
        refine ⟨by show 6 ≤ sizeLine; decide, fun p2 hp2 => ?_⟩
        have D4 := D3.new hp2 (o := .lst [.int 0, .int 1, .int 1, .int 2, .int 2, .int 3])
        have K4 := K3.new hp2 (o := .lst [.int 0, .int 1, .int 1, .int 2, .int 2, .int 3])
        have hp2' : upd H3 p2 (.lst [.int 0, .int 1, .int 1, .int 2, .int 2, .int 3]) p2 = some (.lst (([0, 1, 1, 2, 2, 3] : List Int).map V.int)) := upd_same
        generalize upd H3 p2 (.lst [.int 0, .int 1, .int 1, .int 2, .int 2, .int 3]) = H4 at D4 K4 hp2'
        refine ⟨_, rfl, _, _, rfl, rfl, ⟨by decide, by decide⟩, _, _, rfl, rfl, by show (0 : Int) < 6; decide, p2, _, _, _, rfl, rfl, SqL.of hp2', hv, ?_⟩
        refine ⟨_, rfl, _, _, rfl, rfl, .inr ⟨_, rfl, _, _, rfl, rfl, .inl ⟨by omega, by omega⟩, ?_⟩⟩
        have hM : 0 ≤ v * (if decide (1 < left) = true then 1 else 0) ∧ v * (if decide (1 < left) = true then 1 else 0) ≤ 3 ∧ (left < 2 → v * (if decide (1 < left) = true then 1 else 0) = 0) := by
          split
          · next h => exact ⟨by omega, by omega, fun z => absurd (of_decide_eq_true h) (by omega)⟩
          · exact ⟨by omega, by omega, fun _ => by omega⟩
        obtain ⟨M, eM⟩ : ∃ M, v * (if decide (1 < left) = true then 1 else 0) = M := ⟨_, rfl⟩
        rw [eM] at hM
        obtain ⟨hM0, hM3, hM1⟩ := hM
        have hr96 := mod_range (k := k / 96) (m := 7) (by decide)
        obtain ⟨ww, hww, _, _⟩ := at_nat (xs := (["yes", "no", "nought", "next", "pair", "leaf", "plus"] : List Str)) (f := V.str) hr96.1 hr96.2
        refine ⟨by show 7 ≤ sizeLine; decide, fun p3 hp3 => ?_⟩
        have D5 := D4.new hp3 (o := .lst [.str "yes", .str "no", .str "nought", .str "next", .str "pair", .str "leaf", .str "plus"])
        have K5 := K4.new hp3 (o := .lst [.str "yes", .str "no", .str "nought", .str "next", .str "pair", .str "leaf", .str "plus"])
        have hp3' : upd H4 p3 (.lst [.str "yes", .str "no", .str "nought", .str "next", .str "pair", .str "leaf", .str "plus"]) p3 = some (.lst ((["yes", "no", "nought", "next", "pair", "leaf", "plus"] : List Str).map V.str)) := upd_same
        generalize upd H4 p3 (.lst [.str "yes", .str "no", .str "nought", .str "next", .str "pair", .str "leaf", .str "plus"]) = H5 at D5 K5 hp3'
        refine ⟨_, rfl, _, _, rfl, rfl, ⟨by decide, by decide⟩, _, _, rfl, rfl, by show (0 : Int) < 7; decide, p3, _, _, _, rfl, rfl, SqL.of hp3', hww, ?_⟩
        refine ⟨_, rfl, _, rfl, _, rfl, M, congrArg (fun z => [V.int z]) eM, by omega, by omega, fun Z hZ => ?_⟩
        have hZD := D5.not_new hZ
        refine lc_range (lo := 0) (n := M.toNat) (fun i H' => ∃ (vs : List V) (ss : List Say), Deck H' d g c (n + 1 + i * cost m) ∧ Keep [d, g, c] H H' ∧ H' Z = some (.lst vs) ∧ IsA H' vs (ss.map Say.da) ∧ ss.length = i ∧ ∀ p ∈ ss, Say.ok (fun x => x ∈ ws ∨ x = "made") j p) ?_ ?_ ?_
        · exact ⟨[], [], by simpa using D5.new hZ, K5.new hZ, upd_same, .nil, rfl, by simp⟩
        · rintro i H6 hi ⟨vs, ss, D6, K6, hZ6, IA, hsl, hok⟩
          refine ⟨rfl, yes_if ?_⟩
          have hl2 : 2 ≤ left := by
            by_cases z : left < 2
            · have := hM1 z; omega
            · omega
          have hi3 : i ≤ 2 := by omega
          have hcc : i * cost m ≤ 2 * cost m := Nat.mul_le_mul_right _ hi3
          refine ⟨_, rfl, _, rfl, _, rfl, _, _, rfl, rfl, d, g, c, hs, n + 1 + i * cost m, ws, left - 1, rfl, D6, K6.at hh hns, hns, hw0, hw6, by omega, by omega, by omega, fun v1 s1 H7 D7 K7 I7 o7 => ?_⟩
          have ej : (left - 1).toNat = j := by omega
          rw [ej] at o7
          have lvs : vs.length = i := by rw [IA.len, List.length_map, hsl]
          have hZ7 := K7.at hZ6 hZD
          refine ⟨vs, hZ7, small1000 (by omega), vs ++ [v1], ss ++ [s1], ?_, (K6.trans K7).mutN (K5.free' hZ hZD), upd_same, ?_, by rw [List.length_append, hsl]; rfl, ?_⟩
          · have e : n + 1 + (i + 1) * cost m = n + 1 + i * cost m + cost m := by rw [Nat.succ_mul]; omega
            rw [e]
            exact D7.put hZD
          · have N : TupS H7 (upd H7 Z (.lst (vs ++ [v1]))) := (TupS.refl H7).mutL hZ7
            rw [List.map_append]
            exact ((IA.mono (K7.tups D6.noTup)).mono N).app (.cons (I7.mono N) .nil)
          · intro p hp
            rcases List.mem_append.mp hp with h | h
            · exact hok p h
            · simp only [List.mem_singleton] at h
              rw [h]; exact o7
        · rintro H6 ⟨vs, ss, D6, K6, hZ6, IA, hsl, hok⟩
          have hMc : M.toNat * cost m ≤ 3 * cost m := Nat.mul_le_mul_right _ (by omega)
          refine ⟨Z, vs, rfl, .inl ⟨SqL.of hZ6, fun l hl => ?_⟩⟩
          refine ⟨by show 3 ≤ sizeLine; decide, fun t ht => ?_⟩
          have N1 := (same_new hl (.tup vs)).tups
          have N2 := (same_new ht (.tup [.str (hApp c0), .str ww, .ref l])).tups
          refine q _ (.app c0 ww ss) _ (((D6.new hl).new ht).le (by omega)) ((K6.new hl).new ht) (mk_app upd_same ?_ ((IA.mono N1).mono N2)) ⟨hxw, by omega, hok⟩
          exact N2 _ _ upd_same
    · intro nxt
      refine ⟨_, rfl, _, _, rfl, rfl, _, rfl, ?_⟩
      refine ite2 (fun c1 => ?_) (fun c1 => ?_)
      · have c1' : left < 2 := of_decide_eq_true c1
        refine ⟨_, rfl, by show 2 ≤ sizeLine; decide, fun p hp => ?_⟩
        have D2 := D1.new hp (o := .lst [.str "name", .str "skip"])
        have K2 := K1.new hp (o := .lst [.str "name", .str "skip"])
        have hh2 := K2.at hh hns
        refine ⟨p, _, rfl, .inl (SqL.of upd_same), rfl, rfl, _, rfl, ?_⟩
        generalize upd H1 p (.lst [.str "name", .str "skip"]) = H2 at D2 K2 hh2
        refine ite2 (fun c2 => ?_) (fun c2 => ?_)
        · refine ⟨by show 2 ≤ sizeLine; decide, fun p2 hp2 => ?_⟩
          have D3 := D2.new hp2 (o := .lst [.str "name", .str "made"])
          have K3 := K2.new hp2 (o := .lst [.str "name", .str "made"])
          have hh3 := K3.at hh hns
          have hp3 : upd H2 p2 (.lst [.str "name", .str "made"]) p2 = some (.lst [.str "name", .str "made"]) := upd_same
          generalize upd H2 p2 (.lst [.str "name", .str "made"]) = H3 at D3 K3 hh3 hp3
          refine ⟨_, rfl, hs, _, rfl, .inl (SqL.of hh3), rfl, flat_strs ws, _, rfl, ?_⟩
          refine ite2 (fun c3 => ?_) (fun c3 => ?_)
          · refine .inr ⟨_, rfl, p2, _, _, .str "made", rfl, rfl, SqL.of hp3, rfl, ?_⟩
            exact nxt _ _ ⟨"made", rfl, D3, K3, .inr rfl, fun _ => .inr (.inr rfl)⟩
          · have hname : (("name" : Str) ∈ ws) := by
              cases hv : inV (.str "name") (ws.map V.str) with
              | true => exact inV_strs.mp hv
              | false => rw [hv] at c3; exact absurd rfl c3
            refine ⟨_, rfl, _, _, rfl, rfl, ⟨by decide, by decide⟩, _, _, rfl, rfl, by show (0 : Int) < 2; decide, rfl, ?_⟩
            refine .inr ⟨_, rfl, ?_⟩
            cases decide (V.int (k / 8 % 2) = V.int 0) with
            | true =>
              refine ⟨p2, _, _, .str "made", rfl, rfl, SqL.of hp3, rfl, ?_⟩
              exact nxt _ _ ⟨"made", rfl, D3, K3, .inr rfl, fun _ => .inr (.inr rfl)⟩
            | false =>
              refine ⟨p2, _, _, .str "name", rfl, rfl, SqL.of hp3, rfl, ?_⟩
              exact nxt _ _ ⟨"name", rfl, D3, K3, .inl hname, fun _ => .inl rfl⟩
        · have hin : x0 ∈ (["name", "skip"] : List Str) := by
            cases hv : inV (.str x0) [.str "name", .str "skip"] with
            | true => exact inV_strs (ws := ["name", "skip"]).mp hv
            | false => rw [hv] at c2; exact absurd rfl c2
          refine nxt _ _ ⟨x0, rfl, D2, K2, .inl hx0m, fun _ => ?_⟩
          simp only [List.mem_cons, List.not_mem_nil, or_false] at hin
          rcases hin with h | h
          · exact .inl h
          · exact .inr (.inl h)
      · refine nxt _ _ ⟨x0, rfl, D1, K1, .inl hx0m, fun z => ?_⟩
        exact absurd z (of_decide_eq_false (Bool.eq_false_iff.mpr c1))
end
end Nf


set_option Elab.async false
set_option linter.all false
set_option maxRecDepth 100000
namespace Nf
open PySem L2
section
variable {P : Program} {w : World} {K : PySem.W.Frag} {mg : Str → Option Value} {base : Heap} {f fp fw fr : Addr} {fd fpd fwd frd : FuncData}
/-! ### parts_of -/
abbrev s_parts_of : Stmt := top 1
abbrev N_parts_of : List Str := ["node"]
abbrev P_parts_of : List Str := ["node"]
theorem sc_parts_of : FnScope N_parts_of P_parts_of (defScope s_parts_of) := ⟨rfl, rfl, rfl, by decide +kernel, rfl, by decide +kernel, by decide +kernel⟩
def spParts : Sp := fun vs H Q _ => ∃ (v : V) (s : Say), vs = [v] ∧ Is H v s.da ∧ ∀ b xs H', Same H H' → H' b = some (.tup xs) → IsA H' xs (s.parts.map Say.da) → Q (.ref b) H'
theorem ok_parts (T : Bt mg) (C_parts_of : Cal K mg "parts_of" s_parts_of P_parts_of f fd) : FnOk P w K mg base CX0 1 f fd P_parts_of spParts := by
  refine C_parts_of.F.ok sc_parts_of (fun vs H Q E h => ?_) (fun cdv A outer s H vs Q E hr h => ?_)
  · obtain ⟨v, s, rfl, _⟩ := h
    rfl
  obtain ⟨v, s, rfl, hv, q⟩ := h
  refine ⟨_, PSs.nox (pss_cons (ps_if (pt_cmpR op_in_seq (pe_ix ix_tup (pv 0) pe_int (fun _ _ => rfl)) (pe_tup (pa_cons pe_str (pa_cons pe_str pa_nil))) (by rfl)) (pss_one (ps_ret (pe_ix ix_tup (pv 0) pe_int (fun _ _ => rfl)))) pss_nil)
    (pss_cons (ps_if (pt_cmpR op_in_seq (pe_ix ix_tup (pv 0) pe_int (fun _ _ => rfl)) (pe_tup (pa_cons pe_str (pa_cons pe_str pa_nil))) (by rfl)) (pss_one (ps_ret (pe_slice sl_tupA (pv 0) (po_some pe_int) po_none))) pss_nil)
    (pss_one (ps_ret (pe_tup pa_nil))))), ?_⟩
  obtain ⟨a, r, rfl, ha⟩ := is_head hv
  refine ⟨_, rfl, a, _, _, .str s.head, rfl, rfl, SqT.of ha, at0, by show 2 ≤ sizeLine; decide, fun p hp => ⟨p, _, rfl, .inr (SqT.of upd_same), rfl, rfl, _, rfl, ?_⟩⟩
  have S1 := same_new hp (.tup [.str "made", .str "call"])
  have hv1 := hv.mono S1.tups
  have ha1 := S1 _ _ ha
  generalize upd H p (.tup [.str "made", .str "call"]) = H1 at S1 hv1 ha1
  cases s with
  | app c w ps =>
    refine ifBT (in_mc _) ?_
    obtain ⟨a', b, xs, e, h1, h2, h3⟩ := is_app hv1
    cases e
    refine ⟨_, rfl, _, _, _, _, rfl, rfl, SqT.of h1, rfl, ?_⟩
    exact q b xs H1 S1 h2 h3
  | two c s t =>
    refine ifBF (in_mc _) ?_
    refine ⟨_, rfl, a, _, _, _, rfl, rfl, SqT.of ha1, at0, by show 2 ≤ sizeLine; decide, fun p2 hp2 => ⟨p2, _, rfl, .inr (SqT.of upd_same), rfl, rfl, _, rfl, ?_⟩⟩
    refine ifBT (in_es _) ?_
    have S2 := S1.new hp2 (o := .tup [.str "either", .str "same"])
    have hv2 := hv.mono S2.tups
    generalize upd H1 p2 (.tup [.str "either", .str "same"]) = H2 at S2 hv2
    obtain ⟨a', x, y, e, h1, h2, h3⟩ := is_two hv2
    cases e
    refine ⟨_, rfl, _, rfl, sl_any h1 fun p3 H3 S3 h4 => ?_⟩
    rw [cut_from1] at h4
    exact q p3 _ H3 (S2.trans S3) h4 (.cons (h2.mono S3.tups) (.cons (h3.mono S3.tups) .nil))
  | name x =>
    refine ifBF (in_mc _) ?_
    refine ⟨_, rfl, a, _, _, _, rfl, rfl, SqT.of ha1, at0, by show 2 ≤ sizeLine; decide, fun p2 hp2 => ⟨p2, _, rfl, .inr (SqT.of upd_same), rfl, rfl, _, rfl, ?_⟩⟩
    refine ifBF (in_es _) ?_
    have S2 := S1.new hp2 (o := .tup [.str "either", .str "same"])
    refine ⟨by show 0 ≤ sizeLine; decide, fun p3 hp3 => ?_⟩
    exact q p3 [] _ (S2.new hp3) upd_same .nil
  | skip =>
    refine ifBF (in_mc _) ?_
    refine ⟨_, rfl, a, _, _, _, rfl, rfl, SqT.of ha1, at0, by show 2 ≤ sizeLine; decide, fun p2 hp2 => ⟨p2, _, rfl, .inr (SqT.of upd_same), rfl, rfl, _, rfl, ?_⟩⟩
    refine ifBF (in_es _) ?_
    have S2 := S1.new hp2 (o := .tup [.str "either", .str "same"])
    refine ⟨by show 0 ≤ sizeLine; decide, fun p3 hp3 => ?_⟩
    exact q p3 [] _ (S2.new hp3) upd_same .nil
end
end Nf


set_option Elab.async false
set_option linter.all false
set_option maxRecDepth 100000
namespace Nf
open PySem L2
section
variable {P : Program} {w : World} {K : PySem.W.Frag} {mg : Str → Option Value} {base : Heap} {f fp fw fr : Addr} {fd fpd fwd frd : FuncData}
/-! ### with_parts -/
abbrev s_with_parts : Stmt := top 2
abbrev N_with_parts : List Str := ["node", "parts"]
abbrev P_with_parts : List Str := ["node", "parts"]
theorem sc_with_parts : FnScope N_with_parts P_with_parts (defScope s_with_parts) := ⟨rfl, rfl, rfl, by decide +kernel, rfl, by decide +kernel, by decide +kernel⟩
def spWith : Sp := fun vs H Q _ => ∃ (v : V) (b : Addr) (xs : List V) (s : Say) (ps : List Say), vs = [v, .ref b] ∧ Is H v s.da ∧ H b = some (.tup xs) ∧ IsA H xs (ps.map Say.da) ∧ ps.length = s.parts.length ∧ ps.length ≤ 3 ∧
  ∀ v' H', Same H H' → Is H' v' (s.withP ps).da → Q v' H'
theorem ok_with (T : Bt mg) (C_with_parts : Cal K mg "with_parts" s_with_parts P_with_parts f fd) : FnOk P w K mg base CX0 1 f fd P_with_parts spWith := by
  refine C_with_parts.F.ok sc_with_parts (fun vs H Q E h => ?_) (fun cdv A outer s H vs Q E hr h => ?_)
  · obtain ⟨v, b, xs, s, ps, rfl, _⟩ := h
    rfl
  obtain ⟨v, b, xs, s, ps, rfl, hv, hb, hxs, hl, hl3, q⟩ := h
  refine ⟨_, PSs.nox (pss_cons (ps_if (pt_cmpR op_in_seq (pe_ix ix_tup (pv 0) pe_int (fun _ _ => rfl)) (pe_tup (pa_cons pe_str (pa_cons pe_str pa_nil))) (by rfl)) (pss_one (ps_ret (pe_tup (pa_cons (pe_ix ix_tup (pv 0) pe_int (fun _ _ => rfl)) (pa_cons (pe_ix ix_tup (pv 0) pe_int (fun _ _ => rfl)) (pa_cons (pv 1) pa_nil)))))) pss_nil)
    (pss_cons (ps_if (pt_cmpR op_in_seq (pe_ix ix_tup (pv 0) pe_int (fun _ _ => rfl)) (pe_tup (pa_cons pe_str (pa_cons pe_str pa_nil))) (by rfl)) (pss_one (ps_ret (pe_tup (pa_cons (pe_ix ix_tup (pv 0) pe_int (fun _ _ => rfl)) (StX.pa_star (pv 1) pa_nil))))) pss_nil)
    (pss_one (ps_ret (pv 0))))), ?_⟩
  obtain ⟨a, r, rfl, ha⟩ := is_head hv
  refine ⟨_, rfl, a, _, _, .str s.head, rfl, rfl, SqT.of ha, at0, by show 2 ≤ sizeLine; decide, fun p hp => ⟨p, _, rfl, .inr (SqT.of upd_same), rfl, rfl, _, rfl, ?_⟩⟩
  have S1 := same_new hp (.tup [.str "made", .str "call"])
  have hv1 := hv.mono S1.tups
  have ha1 := S1 _ _ ha
  have hb1 := S1 _ _ hb
  have hxs1 := hxs.mono S1.tups
  generalize upd H p (.tup [.str "made", .str "call"]) = H1 at S1 hv1 ha1 hb1 hxs1
  cases s with
  | app c w ps0 =>
    refine ifBT (in_mc _) ?_
    obtain ⟨a', b', xs', e, h1, h2, h3⟩ := is_app hv1
    cases e
    refine ⟨_, rfl, _, _, _, _, rfl, rfl, SqT.of h1, rfl, _, rfl, _, _, _, _, rfl, rfl, SqT.of h1, rfl, _, rfl, by show 3 ≤ sizeLine; decide, fun t ht => ?_⟩
    have N := (same_new ht (.tup [.str (hApp c), .str w, .ref b])).tups
    exact q _ _ (S1.new ht) (mk_app upd_same (N _ _ hb1) (hxs1.mono N))
  | two c s t =>
    refine ifBF (in_mc _) ?_
    refine ⟨_, rfl, a, _, _, _, rfl, rfl, SqT.of ha1, at0, by show 2 ≤ sizeLine; decide, fun p2 hp2 => ⟨p2, _, rfl, .inr (SqT.of upd_same), rfl, rfl, _, rfl, ?_⟩⟩
    refine ifBT (in_es _) ?_
    have S2 := S1.new hp2 (o := .tup [.str "either", .str "same"])
    have hv2 := hv.mono S2.tups
    have hb2 := S2 _ _ hb
    have hxs2 := hxs.mono S2.tups
    generalize upd H1 p2 (.tup [.str "either", .str "same"]) = H2 at S2 hv2 hb2 hxs2
    obtain ⟨a', x, y, e, h1, h2, h3⟩ := is_two hv2
    cases e
    match ps, hl, hxs2 with
    | [s1, s2], _, hxs2 =>
      cases hxs2 with
      | @cons u1 _ _ _ i1 r1 =>
        cases r1 with
        | @cons u2 _ _ _ i2 r2 =>
          cases r2
          refine ⟨_, rfl, _, _, _, _, rfl, rfl, SqT.of h1, rfl, _, rfl, b, _, rfl, .inl (SqT.of hb2), by show 3 ≤ sizeLine; decide, fun t ht => ?_⟩
          have N := (same_new ht (.tup [.str (hTwo c), u1, u2])).tups
          exact q _ _ (S2.new ht) (mk_two upd_same (i1.mono N) (i2.mono N))
  | name x =>
    refine ifBF (in_mc _) ?_
    refine ⟨_, rfl, a, _, _, _, rfl, rfl, SqT.of ha1, at0, by show 2 ≤ sizeLine; decide, fun p2 hp2 => ⟨p2, _, rfl, .inr (SqT.of upd_same), rfl, rfl, _, rfl, ?_⟩⟩
    refine ifBF (in_es _) ?_
    have S2 := S1.new hp2 (o := .tup [.str "either", .str "same"])
    refine ⟨_, rfl, ?_⟩
    exact q _ _ S2 (hv.mono S2.tups)
  | skip =>
    refine ifBF (in_mc _) ?_
    refine ⟨_, rfl, a, _, _, _, rfl, rfl, SqT.of ha1, at0, by show 2 ≤ sizeLine; decide, fun p2 hp2 => ⟨p2, _, rfl, .inr (SqT.of upd_same), rfl, rfl, _, rfl, ?_⟩⟩
    refine ifBF (in_es _) ?_
    have S2 := S1.new hp2 (o := .tup [.str "either", .str "same"])
    refine ⟨_, rfl, ?_⟩
    exact q _ _ S2 (hv.mono S2.tups)
/-! ### replaced -/
abbrev s_replaced : Stmt := top 6
abbrev N_replaced : List Str := ["saying", "given", "part"]
abbrev P_replaced : List Str := ["saying", "given"]
theorem sc_replaced : FnScope N_replaced P_replaced (defScope s_replaced) := ⟨rfl, rfl, rfl, by decide +kernel, rfl, by decide +kernel, by decide +kernel⟩
def spRepl (n : Nat) : Sp := fun vs H Q _ => ∃ (v : V) (dg : Addr) (kvs : List (Key × V)) (s : Say) (fs : Fl), vs = [v, .ref dg] ∧ Is H v s.da ∧ Say.ok (fun _ => True) n s ∧ H dg = some (.dK kvs) ∧ DR H kvs fs ∧
  ∀ v' H', Same H H' → Is H' v' (s.fill fs).da → Q v' H'
theorem ok_repl (T : Bt mg) (C_replaced : Cal K mg "replaced" s_replaced P_replaced f fd) (C_parts_of : Cal K mg "parts_of" s_parts_of P_parts_of fp fpd) (G_parts_of : FnOk P w K mg base CX0 1 fp fpd P_parts_of spParts)
    (C_with_parts : Cal K mg "with_parts" s_with_parts P_with_parts fw fwd) (G_with_parts : FnOk P w K mg base CX0 1 fw fwd P_with_parts spWith) : ∀ n : Nat, FnOk P w K mg base CX0 (n + 2) f fd P_replaced (spRepl n)
  | 0 => fn_never fun vs H Q E ⟨_, _, _, _, _, _, _, h, _⟩ => h
  | n + 1 => by
    have G_replaced := ok_repl T C_replaced C_parts_of G_parts_of C_with_parts G_with_parts n
    refine C_replaced.F.ok sc_replaced (fun vs H Q E h => ?_) (fun cdv A outer s H vs Q E hr h => ?_)
    · obtain ⟨v, dg, kvs, s, fs, rfl, _⟩ := h
      rfl
    obtain ⟨v, dg, kvs, s, fs, rfl, hv, hok, hdg, hD, q⟩ := h
    refine ⟨_, PSs.nox (pss_cons (ps_if (pt_cmpR op_eq (pe_ix ix_tup (pv 0) pe_int (fun _ _ => rfl)) pe_str (nomark _)) (pss_one (ps_ret (pe_dget2 (hu_of hr) (pv 1) (pe_ix ix_tup (pv 0) pe_int (fun _ _ => rfl)) (pv 0) ⟨by rfl, by rfl, by rfl, by rfl⟩))) pss_nil)
      (pss_one (ps_ret (pe_call G_with_parts (hr.mono (by omega)) (by rfl) C_with_parts.m C_with_parts.F.kp C_with_parts.b .nil pass0 (pa_cons (pv 0) (pa_cons (pe_callTy call_tuple_of (by rfl) T.t_tuple (by decide +kernel) (pa_cons (pe_lc (own := [("part", 2)]) (g := gName 2) (tt := tYes) (by rfl) sc_replaced.nd (pi_tup (pe_call G_parts_of (hr.mono (by omega)) (by rfl) C_parts_of.m C_parts_of.F.kp C_parts_of.b .nil pass0 (pa_cons (pv 0) pa_nil))) (blkOk_by (own := [("part", 2)]) (N := N_replaced) (sc := defScope s_replaced) (by decide +kernel)) (fun _ _ _ _ _ => (pg_name (i := 2) sc_replaced.nd rfl (Or.inl rfl))) (fun _ _ _ _ _ => pts_nil) (fun _ _ _ _ _ => (pe_call G_replaced (hr.mono (by omega)) (by rfl) C_replaced.m C_replaced.F.kp C_replaced.b .nil pass0 (pa_cons (pv 2) (pa_cons (pv 1) pa_nil))))) pa_nil)) pa_nil)))))), ?_⟩
    obtain ⟨a, r, rfl, ha⟩ := is_head hv
    refine ⟨_, rfl, a, _, _, .str s.head, rfl, rfl, SqT.of ha, at0, rfl, _, rfl, ?_⟩
    refine ite2 (fun c => ?_) (fun c => ?_)
    · have c' : s.head = "name" := V.str.inj (of_decide_eq_true c)
      cases s with
      | name x =>
        obtain ⟨a', e, h1⟩ := is_name hv
        cases e
        refine ⟨_, rfl, dg, rfl, .inl ⟨kvs, .inl hdg⟩, _, rfl, _, _, _, _, rfl, rfl, SqT.of h1, rfl, _, rfl, valV kvs (Sum.inr x), DGet.k (k := Sum.inr x) hdg, ?_⟩
        cases hl : fs.lookup x with
        | none =>
          rw [(hD x).2 hl]
          refine q _ H (Same.refl H) ?_
          rw [Say.fill_name, hl]
          exact hv
        | some s' =>
          obtain ⟨u, hu, hi⟩ := (hD x).1 s' hl
          rw [hu]
          refine q _ H (Same.refl H) ?_
          rw [Say.fill_name, hl]
          exact hi
      | skip => exact absurd c' head_skip
      | app b _ _ => exact absurd c' head_app
      | two b _ _ => exact absurd c' head_two
    · have c' : s.head ≠ "name" := fun e => c (decide_eq_true (congrArg V.str e))
      rw [Say.fill_parts c'] at q
      have hp3 := Say.parts_le hok
      have hop := Say.ok_parts hok
      refine ⟨_, rfl, _, rfl, _, s, rfl, hv, fun b xs H1 S1 hb hxs => ?_⟩
      refine ⟨b, rfl, ⟨_, SqT.of hb⟩, fun Z hZ => ?_⟩
      refine lc_it (walk_tup (xs := xs)) (fun i H' => ∃ vs : List V, Same H1 H' ∧ H' Z = some (.lst vs) ∧ IsA H' vs ((s.parts.take i).map fun p => (p.fill fs).da)) ?_ ?_ ?_ ?_
      · exact ⟨[], same_new hZ _, upd_same, .nil⟩
      · rintro i H2 _ ⟨vs, h, _⟩
        exact SqT.of (h _ _ hb)
      · rintro i x H2 H3 hi ⟨vs, S2, hZ2, IA⟩ ⟨rfl, hx⟩
        obtain ⟨p, hp, hxp⟩ := hxs.map_get hx
        have hil : i < s.parts.length := (List.getElem?_eq_some_iff.mp hp).1
        refine ⟨rfl, yes_if ?_⟩
        refine ⟨_, rfl, _, rfl, x, dg, kvs, p, fs, rfl, hxp.mono S2.tups, hop p (List.mem_of_getElem? hp), S2 _ _ (S1 _ _ hdg), (hD.mono S1.tups).mono S2.tups, fun v' H' S' I' => ?_⟩
        have lvs : vs.length = i := by rw [IA.len, List.length_map, List.length_take]; omega
        refine ⟨vs, S' _ _ hZ2, small1000 (by omega), vs ++ [v'], (S2.trans S').mutN hZ, upd_same, ?_⟩
        have N : TupS H' (upd H' Z (.lst (vs ++ [v']))) := (TupS.refl H').mutL (S' _ _ hZ2)
        rw [List.take_add_one, hp, List.map_append]
        exact ((IA.mono S'.tups).mono N).app (.cons (I'.mono N) .nil)
      · rintro H2 ⟨vs, S2, hZ2, IA⟩
        have lxs : xs.length = s.parts.length := by rw [hxs.len, List.length_map]
        rw [lxs, List.take_length] at IA
        refine ⟨Z, vs, rfl, .inl ⟨SqL.of hZ2, fun l hl => ?_⟩⟩
        have S3 := (S1.trans S2).new hl (o := .tup vs)
        refine ⟨_, l, vs, s, s.parts.map (Say.fill fs), rfl, hv.mono S3.tups, upd_same, ?_, List.length_map _, by rw [List.length_map]; exact hp3, fun v' H' S' I' => q v' H' (S3.trans S') I'⟩
        rw [List.map_map]
        exact IA.mono (same_new hl _).tups
/-! ### filled -/
abbrev s_filled : Stmt := top 5
abbrev N_filled : List Str := ["saying", "fills", "name", "given"]
abbrev P_filled : List Str := ["saying", "fills"]
theorem sc_filled : FnScope N_filled P_filled (defScope s_filled) := ⟨rfl, rfl, rfl, by decide +kernel, rfl, by decide +kernel, by decide +kernel⟩
def spFilled (n : Nat) : Sp := fun vs H Q _ => ∃ (v u : V) (s : Say) (fs : Fl), vs = [v, u] ∧ Is H v s.da ∧ Say.ok (fun _ => True) n s ∧ Is H u (flDa fs) ∧ fs.length ≤ 1000 ∧ (fs.map Prod.fst).Nodup ∧
  ∀ v' H', Same H H' → Is H' v' (s.fill fs).da → Q v' H'
theorem ok_filled {n : Nat} (T : Bt mg) (C_filled : Cal K mg "filled" s_filled P_filled f fd) (C_replaced : Cal K mg "replaced" s_replaced P_replaced fr frd) (G_replaced : FnOk P w K mg base CX0 (n + 2) fr frd P_replaced (spRepl n)) : FnOk P w K mg base CX0 (n + 3) f fd P_filled (spFilled n) := by
  refine C_filled.F.ok sc_filled (fun vs H Q E h => ?_) (fun cdv A outer s H vs Q E hr h => ?_)
  · obtain ⟨v, u, s, fs, rfl, _⟩ := h
    rfl
  obtain ⟨v, u, s, fs, rfl, hv, hok, hu, hfl, hnd, q⟩ := h
  refine ⟨_, PSs.nox (pss_one (ps_ret (pe_call G_replaced (hr.mono (by omega)) (by rfl) C_replaced.m C_replaced.F.kp C_replaced.b .nil pass0 (pa_cons (pv 0) (pa_cons (pe_dc (own := [("name", 2), ("given", 3)]) (g := gTup _ 2 (gCons (gName 2) (gCons (gName 3) gNil))) (tt := tYes) (by rfl) sc_filled.nd (pi_tup (pv 1)) (blkOk_by (own := [("name", 2), ("given", 3)]) (N := N_filled) (sc := defScope s_filled) (by decide +kernel)) (fun _ _ _ _ _ => (pg_tup rfl (pgs_cons (pg_name (i := 2) sc_filled.nd rfl (Or.inl rfl)) (pgs_cons (pg_name (i := 3) sc_filled.nd rfl (Or.inl rfl)) pgs_nil)))) (fun _ _ _ _ _ => pts_nil) (fun _ _ _ _ _ => (pv 2)) (fun _ _ _ _ _ => (pv 3))) pa_nil))))), ?_⟩
  obtain ⟨a, xs, rfl, ha, hxs⟩ := is_fl hu
  refine ⟨_, rfl, _, rfl, a, rfl, ⟨_, SqT.of ha⟩, fun Z hZ => ?_⟩
  refine dc_tup (xs := xs) (fun i H' => ∃ kvs, Same H H' ∧ H' Z = some (.dK kvs) ∧ DR H' kvs (fs.take i) ∧ kvs.length ≤ i) ?_ ?_ ?_ ?_
  · exact ⟨[], same_new hZ _, upd_same, fun x => ⟨fun s hs => by simp at hs, fun _ => rfl⟩, Nat.le_refl _⟩
  · rintro i H2 _ ⟨kvs, S, _⟩
    exact SqT.of (S _ _ ha)
  · rintro i x H2 hx ⟨kvs, S, hZ2, hD, hkl⟩
    obtain ⟨p, hp, hxp⟩ := hxs.map_get hx
    have hil : i < fs.length := (List.getElem?_eq_some_iff.mp hp).1
    obtain ⟨b, y, rfl, hb, hy⟩ := is_pair (hxp.mono S.tups)
    refine ⟨b, _, rfl, SqT.of hb, rfl, _, _, rfl, _, _, rfl, rfl, rfl, ?_⟩
    refine yes_if ?_
    refine ⟨_, rfl, _, rfl, kvs, Sum.inr p.1, rfl, hZ2, small1000 (by omega), putK kvs (Sum.inr p.1) y, S.mutN hZ, upd_same, ?_, ?_⟩
    · have N : TupS H2 (upd H2 Z (.dK (putK kvs (Sum.inr p.1) y))) := fun c zs hc => by
        rw [upd_ne (fun e => by rw [e, hZ2] at hc; cases hc)]; exact hc
      rw [List.take_add_one, hp]
      exact (hD.snoc (lookup_none_of (nodup_take hnd hp)) hy).mono N
    · have := put_len (kvs := kvs) (k := Sum.inr p.1) (v := y)
      omega
  · rintro H2 ⟨kvs, S, hZ2, hD, hkl⟩
    have lxs : xs.length = fs.length := by rw [hxs.len, List.length_map]
    rw [lxs, List.take_length] at hD
    exact ⟨v, Z, kvs, s, fs, rfl, hv.mono S.tups, hok, hZ2, hD, fun v' H' S' I' => q v' H' (S.trans S') I'⟩
end
end Nf


set_option Elab.async false
set_option linter.all false
set_option maxRecDepth 100000
namespace Nf
open PySem L2
section
variable {P : Program} {w : World} {K : PySem.W.Frag} {mg : Str → Option Value} {base : Heap} {f fp a1 a2 a3 a4 a5 a6 a7 a8 : Addr} {fd fpd d1 d2 d3 d4 d5 d6 d7 d8 : FuncData}
/-! ### fitted -/
abbrev s_fitted : Stmt := top 7
abbrev N_fitted : List Str := ["pattern", "thing", "fills", "waiting", "due", "given", "pairs"]
abbrev P_fitted : List Str := ["pattern", "thing"]
theorem sc_fitted : FnScope N_fitted P_fitted (defScope s_fitted) := ⟨rfl, rfl, rfl, by decide +kernel, rfl, by decide +kernel, by decide +kernel⟩
def spFitted : Sp := fun vs H Q _ => ∃ (v u : V) (p t : Say) (n : Nat), vs = [v, u] ∧ Is H v p.da ∧ Is H u t.da ∧ Say.ok PN n p ∧ n ≤ 8 ∧ ∀ r H', Same H H' → Is H' r (fitDa (fit p t)) → Q r H'
theorem ok_fitted (T : Bt mg) (C_fitted : Cal K mg "fitted" s_fitted P_fitted f fd) : FnOk P w K mg base CX0 1 f fd P_fitted spFitted := by
  refine C_fitted.F.ok sc_fitted (fun vs H Q E h => ?_) (fun cdv A outer s H vs Q E hr h => ?_)
  · obtain ⟨v, u, p, t, n, rfl, _⟩ := h
    rfl
  obtain ⟨v, u, p, t, n, rfl, hv, hu, hok, hn8, q⟩ := h
  refine ⟨_, PSs.nox (pss_cons (ps_set (i := 2) sc_fitted.nd rfl (Or.inl rfl) (pe_lst pa_nil))
    (pss_cons (ps_set (i := 3) sc_fitted.nd rfl (Or.inl rfl) (pe_lst (pa_cons (pe_tup (pa_cons (pv 0) (pa_cons (pv 1) pa_nil))) pa_nil)))
    (pss_cons (ps_while PassesOwn.never (pt_truth (pv 3) (by intro _; rfl)) (pss_cons (ps_asg (pe_bm0 PySem.F.plainAttrs_list PySem.F.slot_list_pop PySem.F.type_list_pop mt_pop (pv 3)) (pg_tup (by rfl) (pgs_cons (pg_name (i := 4) sc_fitted.nd rfl (Or.inl rfl)) (pgs_cons (pg_name (i := 5) sc_fitted.nd rfl (Or.inl rfl)) pgs_nil))))
    (pss_one (ps_if (pt_cmpR op_eq (pe_ix ix_tup (pv 4) pe_int (fun _ _ => rfl)) pe_str (nomark _)) (pss_one (ps_expr (pe_bm PySem.F.plainAttrs_list PySem.F.slot_list_append PySem.F.type_list_append mt_append (pv 2) (pa_cons (pe_tup (pa_cons (pe_ix ix_tup (pv 4) pe_int (fun _ _ => rfl)) (pa_cons (pv 5) pa_nil))) pa_nil)))) (pss_one (ps_if (PW.pt (pw_and (pt_cmpR op_eq (pe_ix ix_tup (pv 5) pe_int (fun _ _ => rfl)) pe_str (nomark _)) (pw_and (pt_cmpR op_eq (pe_ix ix_tup (pv 5) pe_int (fun _ _ => rfl)) (pe_ix ix_tup (pv 4) pe_int (fun _ _ => rfl)) (nomark _)) (pw_and1 (pt_cmpR op_eq (pe_callB call_len_seq (by rfl) T.t_len (by decide +kernel) (pa_cons (pe_ix ix_tup (pv 5) pe_int (fun _ _ => rfl)) pa_nil)) (pe_callB call_len_seq (by rfl) T.t_len (by decide +kernel) (pa_cons (pe_ix ix_tup (pv 4) pe_int (fun _ _ => rfl)) pa_nil)) (nomark _)))))) (pss_cons (ps_set (i := 6) sc_fitted.nd rfl (Or.inl rfl) (pe_listZip (by rfl) (by rfl) T.t_list (by rfl) T.t_zip (pa_cons (pe_ix ix_tup (pv 4) pe_int (fun _ _ => rfl)) (pa_cons (pe_ix ix_tup (pv 5) pe_int (fun _ _ => rfl)) pa_nil))))
    (pss_one (ps_expr (pe_bm PySem.F.plainAttrs_list PySem.F.slot_list_extend PySem.F.type_list_extend mt_extend (pv 3) (pa_cons (pe_revL (pv 6)) pa_nil))))) (pss_one (ps_ret pe_non))))))))
    (pss_one (ps_ret (pe_callTy call_tuple_of (by rfl) T.t_tuple (by decide +kernel) (pa_cons (pv 2) pa_nil))))))), ?_⟩
  have hlen : (p.nod []).length ≤ 65536 := by
    have h1 := nod_len [] hok
    have h2 : 4 ^ n ≤ 4 ^ 8 := Nat.pow_le_pow_right (by decide) hn8
    have h3 : 4 ^ 8 = 65536 := by decide
    omega
  refine ⟨by show 0 ≤ sizeLine; decide, fun fl hfl => ?_⟩
  have S1 := same_new hfl (.lst [])
  have e1 : upd H fl (.lst []) fl = some (.lst []) := upd_same
  generalize upd H fl (.lst []) = H1 at S1 e1
  refine ⟨_, rfl, _, rfl, by show 2 ≤ sizeLine; decide, fun t0 ht0 => ?_⟩
  have S2 := S1.new ht0 (o := .tup [v, u])
  have I2 : Is (upd H1 t0 (.tup [v, u])) (.ref t0) (prDa (p, t)) := .tup upd_same (.cons (hv.mono S2.tups) (.cons (hu.mono S2.tups) .nil))
  have e2 := (same_new ht0 (.tup [v, u])) _ _ e1
  generalize upd H1 t0 (.tup [v, u]) = H2 at S2 I2 e2
  refine ⟨by show 1 ≤ sizeLine; decide, fun wl hwl => ?_⟩
  have hfw : fl ≠ wl := ne_of_none e2 hwl
  have hwl0 : H wl = none := S2.free hwl
  have S3 := S2.new hwl (o := .lst [.ref t0])
  have I3 := I2.mono (same_new hwl (.lst [.ref t0])).tups
  have e3 := (same_new hwl (.lst [.ref t0])) _ _ e2
  have e4 : upd H2 wl (.lst [.ref t0]) wl = some (.lst [.ref t0]) := upd_same
  generalize upd H2 wl (.lst [.ref t0]) = H3 at S3 I3 e3 e4
  refine g_name ?_
  dsimp only
  refine seq_in (t1 := tWhile _ _) ?_
  refine while_g (α := List (Say × Say) × Fl) (fun x σ H' => ∃ (us ws : List V) (y4 y5 y6 : Option V), σ = [some v, some u, some (.ref fl), some (.ref wl), y4, y5, y6] ∧ H' fl = some (.lst us) ∧ IsA H' us (x.2.map pairDa) ∧ H' wl = some (.lst ws) ∧ IsA H' ws (x.1.reverse.map prDa) ∧
    (fitS x.1).map (x.2 ++ ·) = fit p t ∧ (∀ z ∈ x.1, Say.ok PN n z.1) ∧ x.2.length + psz x.1 ≤ 65536 ∧ Same H H') (fun x => psz x.1) ([(p, t)], []) ?_ ?_
  · refine ⟨[], [.ref t0], _, _, _, rfl, e3, .nil, e4, .cons I3 .nil, ?_, ?_, ?_, S3⟩
    · show (fitS [(p, t)]).map ([] ++ ·) = fit p t
      rw [fitS_cons]
      cases fit p t <;> simp [fitS]
    · intro z hz
      rw [List.mem_singleton.mp hz]
      exact hok
    · show 0 + psz [(p, t)] ≤ 65536
      simpa [psz] using hlen
  · rintro ⟨st, fo⟩ σ H5 ⟨us, ws, y4, y5, y6, rfl, hfl5, IAf, hwl5, IAw, heq, hoks, htot, S5⟩
    refine ⟨_, rfl, _, .inl ⟨ws, SqL.of hwl5, rfl⟩, ?_⟩
    cases st with
    | nil =>
      cases IAw
      refine iteF ?_
      refine ⟨_, rfl, fl, us, rfl, .inl ⟨SqL.of hfl5, fun r hr' => ?_⟩⟩
      refine q _ _ (S5.new hr') ?_
      have efo : fit p t = some fo := by rw [← heq]; simp [fitS]
      rw [efo]
      exact .tup upd_same (IAf.mono (same_new hr' _).tups)
    | cons z r =>
      dsimp only at IAw IAf heq hoks htot
      rw [List.reverse_cons, List.map_append] at IAw
      obtain ⟨ws0, w0, rfl, IA0, Iw⟩ := IAw.snoc_inv
      have hzo := hoks z (by simp)
      have lws : ws0.length = r.length := by rw [IA0.len, List.length_map, List.length_reverse]
      have lus : us.length = fo.length := by rw [IAf.len, List.length_map]
      have hps := psz_cons z r
      have hpr := psz_ge r
      refine ifBT (by cases ws0 <;> rfl) ?_
      refine stp_g (μ := fun x : List (Say × Say) × Fl => psz x.1) (x := (z :: r, fo)) ?_
      refine ⟨_, rfl, .inl ⟨rfl, _, SqL.of hwl5⟩, wl, ws0 ++ [w0], w0, rfl, rfl, hwl5, by rw [List.length_append]; simp, ?_⟩
      rw [List.dropLast_concat]
      have N6 : TupS H5 (upd H5 wl (.lst ws0)) := (TupS.refl H5).mutL hwl5
      have hfl6 : upd H5 wl (.lst ws0) fl = some (.lst us) := by rw [upd_ne hfw]; exact hfl5
      have hwl6 : upd H5 wl (.lst ws0) wl = some (.lst ws0) := upd_same
      have S6 : Same H (upd H5 wl (.lst ws0)) := S5.mutN hwl0
      generalize upd H5 wl (.lst ws0) = H6 at N6 hfl6 hwl6 S6
      obtain ⟨a, x, y, rfl, ha, hx, hy⟩ := is_pr (Iw.mono N6)
      obtain ⟨pz, tz⟩ := z
      dsimp only at hx hy hzo
      obtain ⟨ax, rx, rfl, hax⟩ := is_head hx
      obtain ⟨ay, ry, rfl, hay⟩ := is_head hy
      refine ⟨a, _, rfl, SqT.of ha, rfl, _, _, rfl, _, _, rfl, rfl, ?_⟩
      refine ⟨_, rfl, ax, _, _, .str pz.head, rfl, rfl, SqT.of hax, at0, rfl, _, rfl, ?_⟩
      rcases ok_PN hzo with ⟨nm, rfl⟩ | ⟨wd, ps, rfl⟩
      · refine ifT rfl ?_
        obtain ⟨a', e, hn1⟩ := is_name hx
        cases e
        refine ⟨_, rfl, .inl ⟨rfl, _, SqL.of hfl6⟩, _, rfl, _, _, _, .str nm, rfl, rfl, SqT.of hn1, rfl, _, rfl, by show 2 ≤ sizeLine; decide, fun t2 ht2 => ?_⟩
        have S7' := same_new ht2 (.tup [.str nm, .ref ay])
        have S7 := S6.new ht2 (o := .tup [.str nm, .ref ay])
        have h1 : ((Say.name nm).nod []).length = 1 := by simp [Say.nod]
        refine ⟨fl, us, _, rfl, rfl, S7' _ _ hfl6, sz5' (by omega), ?_⟩
        have N8 : TupS (upd H6 t2 (.tup [.str nm, .ref ay])) (upd (upd H6 t2 (.tup [.str nm, .ref ay])) fl (.lst (us ++ [.ref t2]))) := (TupS.refl _).mutL (S7' _ _ hfl6)
        have N68 := S7'.tups.trans N8
        refine ⟨(r, fo ++ [(nm, tz)]), ?_, us ++ [.ref t2], ws0, _, _, _, rfl, upd_same, ?_, ?_, ?_, ?_, ?_, ?_, S7.mutN hfl⟩
        · show psz r < psz ((Say.name nm, tz) :: r)
          rw [hps]; dsimp only; omega
        · rw [List.map_append]
          exact (IAf.mono (N6.trans N68)).app (.cons (.tup (N8 _ _ upd_same) (.cons (.str nm) (.cons (hy.mono N68) .nil))) .nil)
        · rw [upd_ne (Ne.symm hfw)]; exact S7' _ _ hwl6
        · exact IA0.mono (N6.trans N68)
        · rw [← heq, fitS_cons]
          dsimp only
          rw [fit_name]
          cases fitS r <;> simp
        · exact fun z hz => hoks z (by simp [hz])
        · show (fo ++ [(nm, tz)]).length + psz r ≤ 65536
          rw [List.length_append, List.length_singleton]
          rw [hps] at htot
          dsimp only at htot
          omega
      · refine ifF (fun e => head_app (V.str.inj e)) ?_
        have none_of : fit (.app false wd ps) tz = none → ∀ H', Same H H' → Q .non H' := fun hn H' S' => by
          refine q _ _ S' ?_
          rw [← heq, fitS_cons]
          dsimp only
          rw [hn]
          exact .non
        obtain ⟨ax', bx, xps, e, hx1, hx2, hx3⟩ := is_app hx
        cases e
        refine ⟨_, rfl, ay, _, _, .str tz.head, rfl, rfl, SqT.of hay, at0, rfl, _, rfl, ?_⟩
        by_cases hmd : tz.head = "made"
        · refine ifT (congrArg V.str hmd) ?_
          obtain ⟨wd', ts, rfl⟩ := head_made hmd
          obtain ⟨ay', by_, yts, e, hy1, hy2, hy3⟩ := is_app hy
          cases e
          refine ⟨_, rfl, _, _, _, .str wd', rfl, rfl, SqT.of hy1, rfl, _, rfl, _, _, _, .str wd, rfl, rfl, SqT.of hx1, rfl, rfl, _, rfl, ?_⟩
          by_cases hwe : wd' = wd
          · refine ifT (congrArg V.str hwe) ?_
            refine ⟨_, rfl, _, _, _, .ref by_, rfl, rfl, SqT.of hy1, rfl, by_, _, rfl, .inr (SqT.of hy2), _, rfl, _, _, _, .ref bx, rfl, rfl, SqT.of hx1, rfl, bx, _, rfl, .inr (SqT.of hx2), rfl, _, rfl, ?_⟩
            have lx : xps.length = ps.length := by rw [hx3.len, List.length_map]
            have ly : yts.length = ts.length := by rw [hy3.len, List.length_map]
            by_cases hle : yts.length = xps.length
            · refine ifT (congrArg V.int (by omega)) ?_
              have hlt : ts.length = ps.length := by omega
              refine ⟨_, rfl, _, _, _, .ref bx, rfl, rfl, SqT.of hx1, rfl, _, rfl, _, _, _, .ref by_, rfl, rfl, SqT.of hy1, rfl, bx, by_, xps, yts, rfl, SqT.of hx2, SqT.of hy2, hle.symm, fun H7 Z tt S7' hZ hZ7 hpp => ?_⟩
              have S7 := S6.trans S7'
              have IAp := isA_pairs hpp (hx3.mono S7'.tups) (hy3.mono S7'.tups)
              refine ⟨_, rfl, .inl ⟨rfl, _, SqL.of (S7' _ _ hwl6)⟩, _, rfl, Z, _, rfl, SqL.of hZ7, fun pr hpr' => ?_⟩
              have S8' := same_new hpr' (.lst (tt.map V.ref).reverse)
              have ltt : (tt.map V.ref).length = ps.length := by rw [IAp.len, List.length_map, List.length_zip]; omega
              have nsz := nod_len_eq (.app false wd ps)
              have hnps := psz_zip (ps := ps) (ts := ts) hlt.symm
              have hge := psz_ge (ps.zip ts)
              rw [List.length_zip] at hge
              have hparts : (Say.app false wd ps).parts = ps := rfl
              rw [hparts] at nsz
              dsimp only at hps htot
              refine ⟨wl, pr, ws0, _, rfl, rfl, S8' _ _ (S7' _ _ hwl6), upd_same, sz5 (by rw [List.length_reverse]; omega), ?_⟩
              have N9 : TupS (upd H7 pr (.lst (tt.map V.ref).reverse)) (upd (upd H7 pr (.lst (tt.map V.ref).reverse)) wl (.lst (ws0 ++ (tt.map V.ref).reverse))) := (TupS.refl _).mutL (S8' _ _ (S7' _ _ hwl6))
              have N79 := S8'.tups.trans N9
              have N69 := S7'.tups.trans N79
              refine ⟨(ps.zip ts ++ r, fo), ?_, us, ws0 ++ (tt.map V.ref).reverse, _, _, _, rfl, ?_, ?_, upd_same, ?_, ?_, ?_, ?_, (S7.new hpr').mutN hwl0⟩
              · show psz (ps.zip ts ++ r) < psz ((Say.app false wd ps, Say.app false wd' ts) :: r)
                rw [hps, psz_app]; omega
              · rw [upd_ne hfw]; exact S8' _ _ (S7' _ _ hfl6)
              · exact IAf.mono (N6.trans N69)
              · show IsA _ _ ((ps.zip ts ++ r).reverse.map prDa)
                rw [List.reverse_append, List.map_append]
                refine (IA0.mono (N6.trans N69)).app ?_
                rw [List.map_reverse]
                exact (IAp.mono N79).rev
              · show (fitS (ps.zip ts ++ r)).map (fo ++ ·) = fit p t
                rw [← heq, fitS_cons, fitS_app]
                dsimp only
                rw [fit_app, if_pos ⟨hwe, hlt⟩, fitA_zip hlt.symm]
              · intro z hz
                rcases List.mem_append.mp hz with h | h
                · have hm : z.1 ∈ ps := (List.of_mem_zip (show (z.1, z.2) ∈ ps.zip ts from h)).1
                  cases n with
                  | zero => exact hzo.elim
                  | succ n => exact Say.ok_mono (by omega) (hzo.2.2 z.1 hm)
                · exact hoks z (by simp [h])
              · show fo.length + psz (ps.zip ts ++ r) ≤ 65536
                rw [psz_app]; omega
            · refine ifF (fun e => hle (by have := V.int.inj e; omega)) ?_
              refine none_of ?_ _ S6
              rw [fit_app, if_neg (fun z => hle (by omega))]
          · refine ifF (fun e => hwe (V.str.inj e)) ?_
            refine none_of ?_ _ S6
            rw [fit_app, if_neg (fun z => hwe z.1)]
        · refine ifF (fun e => hmd (V.str.inj e)) ?_
          exact none_of (fit_none hmd) _ S6
end
end Nf


set_option Elab.async false
set_option linter.all false
set_option maxRecDepth 100000
namespace Nf
open PySem L2
section
variable {P : Program} {w : World} {K : PySem.W.Frag} {mg : Str → Option Value} {base : Heap} {f fp fw fr : Addr} {fd fpd fwd frd : FuncData}
/-! ### nodes_of -/
abbrev s_nodes_of : Stmt := top 3
abbrev N_nodes_of : List Str := ["saying", "nodes", "waiting", "path", "node", "below", "at", "part"]
abbrev P_nodes_of : List Str := ["saying"]
theorem sc_nodes_of : FnScope N_nodes_of P_nodes_of (defScope s_nodes_of) := ⟨rfl, rfl, rfl, by decide +kernel, rfl, by decide +kernel, by decide +kernel⟩
def spNodes : Sp := fun vs H Q _ => ∃ (v : V) (s : Say) (n : Nat), vs = [v] ∧ Is H v s.da ∧ Say.ok (fun _ => True) n s ∧ n ≤ 8 ∧ ∀ a o xs H', Same H H' → H' a = some (.frz o (.tup xs)) → Obj.dict o = none → IsA H' xs ((s.nod []).map ndDa) → Q (.ref a) H'
theorem ok_nodes (T : Bt mg) (C_nodes_of : Cal K mg "nodes_of" s_nodes_of P_nodes_of f fd) (C_parts_of : Cal K mg "parts_of" s_parts_of P_parts_of fp fpd) (G_parts_of : FnOk P w K mg base CX0 1 fp fpd P_parts_of spParts) : FnOk P w K mg base CX0 2 f fd P_nodes_of spNodes := by
  refine C_nodes_of.F.ok sc_nodes_of (fun vs H Q E h => ?_) (fun cdv A outer s H vs Q E hr h => ?_)
  · obtain ⟨v, s, n, rfl, _⟩ := h
    rfl
  obtain ⟨v, s, n, rfl, hv, hok, hn8, q⟩ := h
  refine ⟨_, PSs.nox (pss_cons (ps_set (i := 1) sc_nodes_of.nd rfl (Or.inl rfl) (pe_lst pa_nil))
    (pss_cons (ps_set (i := 2) sc_nodes_of.nd rfl (Or.inl rfl) (pe_lst (pa_cons (pe_tup (pa_cons (pe_tup pa_nil) (pa_cons (pv 0) pa_nil))) pa_nil)))
    (pss_cons (ps_while PassesOwn.never (pt_truth (pv 2) (by intro _; rfl)) (pss_cons (ps_asg (pe_bm0 PySem.F.plainAttrs_list PySem.F.slot_list_pop PySem.F.type_list_pop mt_pop (pv 2)) (pg_tup (by rfl) (pgs_cons (pg_name (i := 3) sc_nodes_of.nd rfl (Or.inr rfl)) (pgs_cons (pg_name (i := 4) sc_nodes_of.nd rfl (Or.inl rfl)) pgs_nil))))
    (pss_cons (ps_expr (pe_bm PySem.F.plainAttrs_list PySem.F.slot_list_append PySem.F.type_list_append mt_append (pv 1) (pa_cons (pe_tup (pa_cons (pv 3) (pa_cons (pv 4) pa_nil))) pa_nil)))
    (pss_cons (ps_setLc (i := 5) (own := [("at", 6), ("part", 7)]) (g := gTup _ 2 (gCons (gName 6) (gCons (gName 7) gNil))) (te := tTup (tCons (tTup (StX.tStar K (tVar 3) (tCons (tVar 6) tNil))) (tCons (tVar 7) tNil))) (tt := tYes) (by rfl) sc_nodes_of.nd rfl rfl (sw_true rfl rfl rfl (by decide +kernel)) (pi_enumT (by rfl) T.t_enumerate (pa_cons (pe_call G_parts_of (hr.mono (by omega)) (by rfl) C_parts_of.m C_parts_of.F.kp C_parts_of.b .nil pass0 (pa_cons (pv 4) pa_nil)) pa_nil)) (blkOk_by (own := [("at", 6), ("part", 7)]) (N := N_nodes_of) (sc := defScope s_nodes_of) (by decide +kernel)) (fun _ _ _ _ _ => (pg_tup rfl (pgs_cons (pg_name (i := 6) sc_nodes_of.nd rfl (Or.inl rfl)) (pgs_cons (pg_name (i := 7) sc_nodes_of.nd rfl (Or.inl rfl)) pgs_nil)))) (fun _ _ _ _ _ => pts_nil) (fun _ _ _ _ _ => (pe_tup (pa_cons (pe_tup (StX.pa_star (pv 3) (pa_cons (pv 6) pa_nil))) (pa_cons (pv 7) pa_nil)))))
    (pss_one (ps_expr (pe_bm PySem.F.plainAttrs_list PySem.F.slot_list_extend PySem.F.type_list_extend mt_extend (pv 2) (pa_cons (pe_revL (pv 5)) pa_nil))))))))
    (pss_one (ps_ret (pe_callTy call_tup_frz (by rfl) T.t_tuple (by decide +kernel) (pa_cons (pv 1) pa_nil))))))), ?_⟩
  have hlen : (s.nod []).length ≤ 65536 := by
    have h1 := nod_len [] hok
    have h2 : 4 ^ n ≤ 4 ^ 8 := Nat.pow_le_pow_right (by decide) hn8
    have h3 : 4 ^ 8 = 65536 := by decide
    omega
  have hdep := nod_dep [] hok
  refine ⟨by show 0 ≤ sizeLine; decide, fun nl hnl => ?_⟩
  have S1 := same_new hnl (.lst [])
  have e1 : upd H nl (.lst []) nl = some (.lst []) := upd_same
  generalize upd H nl (.lst []) = H1 at S1 e1
  refine ⟨by show 0 ≤ sizeLine; decide, fun t0 ht0 => ?_⟩
  have S2 := S1.new ht0 (o := .tup [])
  refine ⟨_, rfl, by show 2 ≤ sizeLine; decide, fun t1 ht1 => ?_⟩
  have hv2 := hv.mono S2.tups
  have S3 := S2.new ht1 (o := .tup [.ref t0, v])
  have N3 := (same_new ht1 (.tup [.ref t0, v])).tups
  have I3 : Is (upd (upd H1 t0 (.tup [])) t1 (.tup [.ref t0, v])) (.ref t1) (ndDa ([], s)) :=
    .tup upd_same (.cons (.tup (N3 _ _ upd_same) .nil) (.cons (hv2.mono N3) .nil))
  have e3 : upd (upd H1 t0 (.tup [])) t1 (.tup [.ref t0, v]) nl = some (.lst []) := ((same_new ht0 (.tup [])).trans (same_new ht1 _)) _ _ e1
  generalize upd (upd H1 t0 (.tup [])) t1 (.tup [.ref t0, v]) = H3 at S3 I3 e3
  refine ⟨by show 1 ≤ sizeLine; decide, fun wl hwl => ?_⟩
  have hnw : nl ≠ wl := ne_of_none e3 hwl
  have hwl0 : H wl = none := S3.free hwl
  have S4 := S3.new hwl (o := .lst [.ref t1])
  have I4 := I3.mono (same_new hwl (.lst [.ref t1])).tups
  have e4 : upd H3 wl (.lst [.ref t1]) nl = some (.lst []) := (same_new hwl _) _ _ e3
  have e5 : upd H3 wl (.lst [.ref t1]) wl = some (.lst [.ref t1]) := upd_same
  generalize upd H3 wl (.lst [.ref t1]) = H4 at S4 I4 e4 e5
  refine g_name ?_
  dsimp only
  refine seq_in (t1 := tWhile _ _) ?_
  refine while_g (α := List Nd × List Nd) (fun x σ H' => ∃ (us ws : List V) (y3 y4 y5 : Option V), σ = [some v, some (.ref nl), some (.ref wl), y3, y4, y5, none, none] ∧ H' nl = some (.lst us) ∧ IsA H' us (x.2.map ndDa) ∧ H' wl = some (.lst ws) ∧ IsA H' ws (x.1.reverse.map ndDa) ∧ x.2 ++ ndAll x.1 = s.nod [] ∧ Same H H') (fun x => (ndAll x.1).length) ([([], s)], []) ?_ ?_
  · exact ⟨[], [.ref t1], _, _, _, rfl, e4, .nil, e5, .cons I4 .nil, by simp [ndAll], S4⟩
  · rintro ⟨st, fo⟩ σ H5 ⟨us, ws, y3, y4, y5, rfl, hnl5, IAn, hwl5, IAw, heq, S5⟩
    refine ⟨_, rfl, _, .inl ⟨ws, SqL.of hwl5, rfl⟩, ?_⟩
    cases st with
    | nil =>
      cases IAw
      refine iteF ?_
      refine ⟨_, rfl, nl, us, rfl, SqL.of hnl5, fun t o ht hod => ?_⟩
      have efo : fo = s.nod [] := by simpa [ndAll] using heq
      dsimp only at IAn
      rw [efo] at IAn
      exact q t o us _ (S5.new ht) upd_same hod (IAn.mono (same_new ht _).tups)
    | cons z r =>
      dsimp only at IAw IAn heq
      rw [List.reverse_cons, List.map_append] at IAw
      obtain ⟨ws0, w0, rfl, IA0, Iw⟩ := IAw.snoc_inv
      have hzm : z ∈ s.nod [] := by rw [← heq, ndAll_cons]; simp
      obtain ⟨hzl, hzo⟩ := hdep z hzm
      have htot : (ndAll (z :: r)).length ≤ 65536 := by
        rw [← heq, List.length_append] at hlen; omega
      have hstl := ndAll_ge (z :: r)
      have lws : ws0.length = r.length := by rw [IA0.len, List.length_map, List.length_reverse]
      have lus : us.length = fo.length := by rw [IAn.len, List.length_map]
      have hfl : fo.length ≤ 65536 := by rw [← heq, List.length_append] at hlen; omega
      refine ifBT (by cases ws0 <;> rfl) ?_
      refine stp_g (μ := fun x : List Nd × List Nd => (ndAll x.1).length) (x := (z :: r, fo)) ?_
      refine ⟨_, rfl, .inl ⟨rfl, _, SqL.of hwl5⟩, wl, ws0 ++ [w0], w0, rfl, rfl, hwl5, by rw [List.length_append]; simp, ?_⟩
      rw [List.dropLast_concat]
      have N6 : TupS H5 (upd H5 wl (.lst ws0)) := (TupS.refl H5).mutL hwl5
      have hnl6 : upd H5 wl (.lst ws0) nl = some (.lst us) := by rw [upd_ne hnw]; exact hnl5
      have hwl6 : upd H5 wl (.lst ws0) wl = some (.lst ws0) := upd_same
      have S6 : Same H (upd H5 wl (.lst ws0)) := S5.mutN hwl0
      generalize upd H5 wl (.lst ws0) = H6 at N6 hnl6 hwl6 S6
      obtain ⟨a, b, y, pxs, rfl, ha, hb, hpx, hy⟩ := is_nd (Iw.mono N6)
      have epx := ints_of hpx
      refine ⟨a, _, rfl, SqT.of ha, rfl, _, _, rfl, _, _, rfl, rfl, ?_⟩
      refine ⟨_, rfl, .inl ⟨rfl, _, SqL.of hnl6⟩, _, rfl, _, rfl, by show 2 ≤ sizeLine; decide, fun t ht => ?_⟩
      have S7' := same_new ht (.tup [.ref b, y])
      have S7 := S6.new ht (o := .tup [.ref b, y])
      refine ⟨nl, us, _, rfl, rfl, S7' _ _ hnl6, sz5' (by omega), ?_⟩
      have N8 : TupS (upd H6 t (.tup [.ref b, y])) (upd (upd H6 t (.tup [.ref b, y])) nl (.lst (us ++ [.ref t]))) := (TupS.refl _).mutL (S7' _ _ hnl6)
      have N68 : TupS H6 (upd (upd H6 t (.tup [.ref b, y])) nl (.lst (us ++ [.ref t]))) := S7'.tups.trans N8
      have hnl8 : upd (upd H6 t (.tup [.ref b, y])) nl (.lst (us ++ [.ref t])) nl = some (.lst (us ++ [.ref t])) := upd_same
      have hwl8 : upd (upd H6 t (.tup [.ref b, y])) nl (.lst (us ++ [.ref t])) wl = some (.lst ws0) := by rw [upd_ne (Ne.symm hnw)]; exact S7' _ _ hwl6
      have S8 : Same H (upd (upd H6 t (.tup [.ref b, y])) nl (.lst (us ++ [.ref t]))) := S7.mutN hnl
      have It8 : Is (upd (upd H6 t (.tup [.ref b, y])) nl (.lst (us ++ [.ref t]))) (.ref t) (ndDa z) := .tup (N8 _ _ upd_same) (.cons (.tup (N68 _ _ hb) (hpx.mono N68)) (.cons (hy.mono N68) .nil))
      generalize upd (upd H6 t (.tup [.ref b, y])) nl (.lst (us ++ [.ref t])) = H8 at N8 N68 hnl8 hwl8 S8 It8
      have hb8 := N68 _ _ hb
      have hy8 := hy.mono N68
      refine ⟨_, rfl, y, z.2, rfl, hy8, fun b9 xs9 H9 S9 hb9 hxs9 => ⟨b9, xs9, rfl, SqT.of hb9, fun Z hZ => ?_⟩⟩
      have lk : (kids z.1 0 z.2.parts).length = xs9.length := by rw [kids_len, hxs9.len, List.length_map]
      have h3 : z.2.parts.length ≤ 3 := by
        cases n with
        | zero => exact hzo.elim
        | succ n => exact Say.parts_le hzo
      have lx3 : xs9.length ≤ 3 := by rw [← lk, kids_len]; exact h3
      refine lc_it (walk_enumT (xs := xs9)) (fun i H' => ∃ vs : List V, Same H9 H' ∧ H' Z = some (.lst vs) ∧ IsA H' vs (((kids z.1 0 z.2.parts).take i).map ndDa)) ?_ ?_ ?_ ?_
      · exact ⟨[], same_new hZ _, upd_same, .nil⟩
      · rintro i H10 _ ⟨vs, S10, _⟩
        exact SqT.of (S10 _ _ hb9)
      · rintro i x H10 H11 hi ⟨vs, S10, hZ10, IA10⟩ ⟨T', x', y', rfl, hT, rfl, hx', hy'⟩
        cases hx'
        obtain ⟨pt, hpt, hyp⟩ := hxs9.map_get hy'
        have S11' := same_new hT (.tup [.int (i : Nat), y'])
        have S11 := S10.new hT (o := .tup [.int (i : Nat), y'])
        have S8a := S9.trans S11
        refine ⟨T', _, rfl, SqT.of upd_same, rfl, _, _, rfl, _, _, rfl, rfl, rfl, ?_⟩
        refine yes_if ?_
        refine ⟨_, rfl, b, pxs, rfl, .inl (SqT.of (S8a _ _ hb8)), _, rfl, ?_, fun t2 ht2 => ?_⟩
        · refine sz5 ?_
          rw [List.length_append, hpx.len, List.length_map]
          have : z.1.length < [].length + n := hzl
          simp at this
          show z.1.length + 1 ≤ 100000
          omega
        refine ⟨_, rfl, by show 2 ≤ sizeLine; decide, fun t3 ht3 => ?_⟩
        have S12' := same_new ht2 (.tup (pxs ++ [.int (i : Nat)]))
        have S13' := same_new ht3 (.tup [.ref t2, y'])
        have S13 := (S11.new ht2 (o := .tup (pxs ++ [.int (i : Nat)]))).new ht3 (o := .tup [.ref t2, y'])
        have S1013 : Same H10 (upd (upd (upd H10 T' (.tup [.int (i : Nat), y'])) t2 (.tup (pxs ++ [.int (i : Nat)]))) t3 (.tup [.ref t2, y'])) := (S11'.trans S12').trans S13'
        have lvs : vs.length = i := by rw [IA10.len, List.length_map, List.length_take]; omega
        refine ⟨vs, S1013 _ _ hZ10, small1000 (by omega), vs ++ [.ref t3], S13.mutN hZ, upd_same, ?_⟩
        have N14 : TupS (upd (upd (upd H10 T' (.tup [.int (i : Nat), y'])) t2 (.tup (pxs ++ [.int (i : Nat)]))) t3 (.tup [.ref t2, y'])) (upd (upd (upd (upd H10 T' (.tup [.int (i : Nat), y'])) t2 (.tup (pxs ++ [.int (i : Nat)]))) t3 (.tup [.ref t2, y'])) Z (.lst (vs ++ [.ref t3]))) := (TupS.refl _).mutL (S1013 _ _ hZ10)
        rw [List.take_add_one, kids_get, hpt, List.map_append]
        refine ((IA10.mono S1013.tups).mono N14).app (.cons ?_ .nil)
        refine .tup (N14 _ _ upd_same) (.cons (.tup (N14 _ _ (S13' _ _ upd_same)) ?_) (.cons (((hyp.mono S10.tups).mono S1013.tups).mono N14) .nil))
        show IsA _ (pxs ++ [.int (i : Nat)]) ((z.1 ++ [((0 + i : Nat) : Int)]).map Da.int)
        rw [List.map_append, Nat.zero_add]
        exact ((hpx.mono ((N68.trans S8a.tups).trans (S12'.trans S13').tups)).mono N14).app (.cons (.int _) .nil)
      · rintro H10 ⟨vs, S10, hZ10, IA10⟩
        rw [← lk, List.take_length] at IA10
        have S810 := S9.trans S10
        have hwl10 := S810 _ _ hwl8
        refine ⟨_, rfl, .inl ⟨rfl, _, SqL.of hwl10⟩, _, rfl, Z, vs, rfl, SqL.of hZ10, fun pr hpr => ?_⟩
        have S11' := same_new hpr (.lst vs.reverse)
        have lvs : vs.length ≤ 3 := by rw [IA10.len, List.length_map, kids_len]; exact h3
        refine ⟨wl, pr, ws0, vs.reverse, rfl, rfl, S11' _ _ hwl10, upd_same, sz5 (by rw [List.length_reverse]; simp at hstl; omega), ?_⟩
        have N12 : TupS (upd H10 pr (.lst vs.reverse)) (upd (upd H10 pr (.lst vs.reverse)) wl (.lst (ws0 ++ vs.reverse))) := (TupS.refl _).mutL (S11' _ _ hwl10)
        have N812 := (S810.tups.trans S11'.tups).trans N12
        refine ⟨(kids z.1 0 z.2.parts ++ r, fo ++ [z]), ?_, us ++ [.ref t], ws0 ++ vs.reverse, _, _, _, rfl, ?_, ?_, upd_same, ?_, ?_, ?_⟩
        · show (ndAll (kids z.1 0 z.2.parts ++ r)).length < (ndAll (z :: r)).length
          rw [ndAll_cons, List.length_cons]
          omega
        · rw [upd_ne hnw]
          exact S11' _ _ (S810 _ _ hnl8)
        · rw [List.map_append]
          exact ((IAn.mono (N6.trans N68)).mono N812).app (.cons (It8.mono N812) .nil)
        · rw [List.reverse_append, List.map_append, List.map_reverse, List.map_reverse, ← List.map_reverse, ← List.map_reverse]
          refine ((IA0.mono (N6.trans N68)).mono N812).app ?_
          rw [List.map_reverse]
          exact ((IA10.mono S11'.tups).mono N12).rev
        · show (fo ++ [z]) ++ ndAll (kids z.1 0 z.2.parts ++ r) = s.nod []
          rw [← heq, ndAll_cons, List.append_assoc]
          rfl
        · exact ((S8.trans S810).new hpr).mutN hwl0
/-! ### names_of -/
abbrev s_names_of : Stmt := top 4
abbrev N_names_of : List Str := ["saying", "names", "path", "node"]
abbrev P_names_of : List Str := ["saying"]
theorem sc_names_of : FnScope N_names_of P_names_of (defScope s_names_of) := ⟨rfl, rfl, rfl, by decide +kernel, rfl, by decide +kernel, by decide +kernel⟩
def spNames : Sp := fun vs H Q _ => ∃ (v : V) (s : Say) (n : Nat), vs = [v] ∧ Is H v s.da ∧ Say.ok (fun _ => True) n s ∧ n ≤ 8 ∧ ∀ a H', Same H H' → H' a = some (.tup ((unames (s.nod [])).map V.str)) → Q (.ref a) H'
theorem ok_names (T : Bt mg) (C_names_of : Cal K mg "names_of" s_names_of P_names_of f fd) (C_nodes_of : Cal K mg "nodes_of" s_nodes_of P_nodes_of fp fpd) (G_nodes_of : FnOk P w K mg base CX0 2 fp fpd P_nodes_of spNodes) : FnOk P w K mg base CX0 3 f fd P_names_of spNames := by
  refine C_names_of.F.ok sc_names_of (fun vs H Q E h => ?_) (fun cdv A outer s H vs Q E hr h => ?_)
  · obtain ⟨v, s, n, rfl, _⟩ := h
    rfl
  obtain ⟨v, s, n, rfl, hv, hok, hn8, q⟩ := h
  refine ⟨_, PSs.nox (pss_cons (ps_setDc (i := 1) (own := [("path", 2), ("node", 3)]) (g := gTup _ 2 (gCons (gName 2) (gCons (gName 3) gNil))) (tk := tOp (rIxT K) (tVar 3) (tC (.int 1))) (tt := tTest (tOp rEq (tOp (rIxT K) (tVar 3) (tC (.int 0))) (tC (.str "name")))) (by rfl) sc_names_of.nd rfl rfl (sw_trueD rfl rfl rfl (by decide +kernel)) (pi_tup (pe_call G_nodes_of (hr.mono (by omega)) (by rfl) C_nodes_of.m C_nodes_of.F.kp C_nodes_of.b .nil pass0 (pa_cons (pv 0) pa_nil))) (blkOk_by (own := [("path", 2), ("node", 3)]) (N := N_names_of) (sc := defScope s_names_of) (by decide +kernel)) (fun _ _ _ _ _ => (pg_tup rfl (pgs_cons (pg_name (i := 2) sc_names_of.nd rfl (Or.inl rfl)) (pgs_cons (pg_name (i := 3) sc_names_of.nd rfl (Or.inl rfl)) pgs_nil)))) (fun _ _ _ _ _ => (pts_one (pt_cmpR op_eq (pe_ix ix_tup (pv 3) pe_int (fun _ _ => rfl)) pe_str (nomark _)))) (fun _ _ _ _ _ => (pe_ix ix_tup (pv 3) pe_int (fun _ _ => rfl))) (fun _ _ _ _ _ => pe_bl))
    (pss_one (ps_ret (pe_callTy (call_tup_dK rfl) (by rfl) T.t_tuple (by decide +kernel) (pa_cons (pv 1) pa_nil))))), ?_⟩
  refine ⟨_, rfl, v, s, n, rfl, hv, hok, hn8, fun a o xs H1 S1 ha hod hxs => ?_⟩
  refine ⟨a, rfl, ⟨_, sqF ha⟩, fun Z hZ => ?_⟩
  have lxs : xs.length = (s.nod []).length := by rw [hxs.len, List.length_map]
  have hlen : (s.nod []).length ≤ 65536 := by
    have h1 := nod_len [] hok
    have h2 : 4 ^ n ≤ 4 ^ 8 := Nat.pow_le_pow_right (by decide) hn8
    have h3 : 4 ^ 8 = 65536 := by decide
    omega
  refine dc_tup (xs := xs) (fun i H' => Same H1 H' ∧ H' Z = some (.dK ((unames ((s.nod []).take i)).map keyT))) ?_ ?_ ?_ ?_
  · exact ⟨same_new hZ _, upd_same⟩
  · rintro i H2 _ ⟨S2, _⟩
    exact sqF (S2 _ _ ha)
  · rintro i x H2 hx ⟨S2, hZ2⟩
    obtain ⟨z, hz, hxz⟩ := hxs.map_get hx
    have hil : i < (s.nod []).length := (List.getElem?_eq_some_iff.mp hz).1
    obtain ⟨b, c, y, pxs, rfl, hb, hc, hpx, hy⟩ := is_nd (hxz.mono S2.tups)
    obtain ⟨d, r, rfl, hd⟩ := is_head hy
    refine ⟨b, _, rfl, SqT.of hb, rfl, _, _, rfl, _, _, rfl, rfl, rfl, ?_⟩
    refine ⟨_, rfl, d, _, _, .str z.2.head, rfl, rfl, SqT.of hd, at0, rfl, _, rfl, ?_⟩
    have ll := unames_len ((s.nod []).take i)
    rw [List.length_take] at ll
    rw [unames_take hz]
    obtain ⟨pz, sz⟩ := z
    cases sz with
    | name nm =>
      refine ifT rfl ?_
      obtain ⟨a', e, h1⟩ := is_name hy
      cases e
      refine ⟨_, rfl, _, _, _, .str nm, rfl, rfl, SqT.of h1, rfl, _, Sum.inr nm, rfl, hZ2, sz5' (by rw [List.length_map]; omega), S2.mutN hZ, ?_⟩
      rw [upd_same, put_keyT]
      rfl
    | skip => exact ifF (fun e => head_skip (V.str.inj e)) ⟨S2, hZ2⟩
    | app c0 w ps => exact ifF (fun e => head_app (V.str.inj e)) ⟨S2, hZ2⟩
    | two c0 s1 s2 => exact ifF (fun e => head_two (V.str.inj e)) ⟨S2, hZ2⟩
  · rintro H2 ⟨S2, hZ2⟩
    rw [lxs, List.take_length] at hZ2
    refine ⟨_, rfl, Z, _, rfl, hZ2, fun p hp => ?_⟩
    refine q p _ ((S1.trans S2).new hp) ?_
    rw [upd_same, List.map_map]
    rfl
end
end Nf


set_option Elab.async false
set_option linter.all false
set_option maxRecDepth 100000
namespace Nf
open PySem L2
section
variable {P : Program} {w : World} {K : PySem.W.Frag} {mg : Str → Option Value} {base : Heap} {f fp a1 a2 a3 a4 a5 a6 a7 a8 a9 : Addr} {fd fpd d1 d2 d3 d4 d5 d6 d7 d8 d9 : FuncData}
/-! ### names all unlike -/
abbrev s_unlike : Stmt := top 15
abbrev N_unlike : List Str := ["_law_pattern", "_law_many", "_law_part"]
abbrev P_unlike : List Str := ["_law_pattern", "_law_many"]
theorem sc_unlike : FnScope N_unlike P_unlike (defScope s_unlike) := ⟨rfl, rfl, rfl, by decide +kernel, rfl, by decide +kernel, by decide +kernel⟩
def tjs (k : Nat) : List V := (List.range k).map fun j => V.str (tj j)
theorem tjs_len (k : Nat) : (tjs k).length = k := by unfold tjs; rw [List.length_map, List.length_range]
theorem tjs_succ (k : Nat) : tjs (k + 1) = tjs k ++ [.str (tj k)] := by unfold tjs; rw [List.range_succ, List.map_append]; rfl
def spUnlike (n : Nat) : Sp := fun vs H Q _ => ∃ (v : V) (m : Addr) (k : Nat) (p : Say), vs = [v, .ref m] ∧ Is H v p.da ∧ Say.ok PN n p ∧ H m = some (.lst (tjs k)) ∧ k + 4 ^ n ≤ 90000 ∧
  ∀ v' p' H' c, Keep [m] H H' → H' m = some (.lst (tjs (k + c))) → c ≤ 4 ^ n → Is H' v' p'.da → Say.ok PN n p' → p'.nm = (List.range' k c).map tj → Q v' H'
theorem ok_unlike (T : Bt mg) (C_unlike : Cal K mg "_law_unlike" s_unlike P_unlike f fd) : ∀ n : Nat, FnOk P w K mg base CX0 n f fd P_unlike (spUnlike n)
  | 0 => fn_never fun vs H Q E ⟨_, _, _, _, _, _, h, _⟩ => h
  | n + 1 => by
    have G_unlike := ok_unlike T C_unlike n
    refine C_unlike.F.ok sc_unlike (fun vs H Q E h => ?_) (fun cdv A outer s H vs Q E hr h => ?_)
    · obtain ⟨v, m, k, p, rfl, _⟩ := h
      rfl
    obtain ⟨v, m, k, p, rfl, hv, hok, hm, hsz, q⟩ := h
    refine ⟨_, PSs.nox (pss_cons (ps_if (pt_cmpR op_eq (pe_ix ix_tup (pv 0) pe_int (fun _ _ => rfl)) pe_str (nomark _)) (pss_cons (ps_expr (pe_bm PySem.F.plainAttrs_list PySem.F.slot_list_append PySem.F.type_list_append mt_append (pv 1) (pa_cons (pe_op op_mul_str (pe_ix ix_str pe_str (pe_op op_mod (pe_op op_mul (pe_callB call_len_seq (by rfl) T.t_len (by decide +kernel) (pa_cons (pv 1) pa_nil)) pe_int) pe_int) (fun _ _ => rfl)) (pe_op op_add pe_int (pe_op op_fdiv (pe_callB call_len_seq (by rfl) T.t_len (by decide +kernel) (pa_cons (pv 1) pa_nil)) pe_int))) pa_nil)))
      (pss_one (ps_ret (pe_tup (pa_cons pe_str (pa_cons (pe_ix ix_list (pv 1) (pe_un un_neg pe_int) (fun _ _ => rfl)) pa_nil)))))) pss_nil)
      (pss_one (ps_ret (pe_tup (pa_cons pe_str (pa_cons (pe_ix ix_tup (pv 0) pe_int (fun _ _ => rfl)) (pa_cons (pe_callTy call_tuple_of (by rfl) T.t_tuple (by decide +kernel) (pa_cons (pe_lc (own := [("_law_part", 2)]) (g := gName 2) (tt := tYes) (by rfl) sc_unlike.nd (pi_tup (pe_ix ix_tup (pv 0) pe_int (fun _ _ => rfl))) (blkOk_by (own := [("_law_part", 2)]) (N := N_unlike) (sc := defScope s_unlike) (by decide +kernel)) (fun _ _ _ _ _ => (pg_name (i := 2) sc_unlike.nd rfl (Or.inl rfl))) (fun _ _ _ _ _ => pts_nil) (fun _ _ _ _ _ => (pe_call G_unlike (hr.mono (by omega)) (by rfl) C_unlike.m C_unlike.F.kp C_unlike.b .nil pass0 (pa_cons (pv 2) (pa_cons (pv 1) pa_nil))))) pa_nil)) pa_nil))))))), ?_⟩
    obtain ⟨ax, rx, rfl, hax⟩ := is_head hv
    have h4 : 0 < 4 ^ n := Nat.pow_pos (by decide)
    have h5 : 4 ^ (n + 1) = 4 * 4 ^ n := by rw [Nat.pow_succ]; omega
    have lk := tjs_len k
    refine ⟨_, rfl, ax, _, _, .str p.head, rfl, rfl, SqT.of hax, at0, rfl, _, rfl, ?_⟩
    rcases ok_PN hok with ⟨nm, rfl⟩ | ⟨wd, ps, rfl⟩
    · refine ifT rfl ?_
      have hr26 := mod_range (k := (((tjs k).length : Nat) : Int) * 7) (m := 26) (by decide)
      have hcc := letter_at hr26.1 hr26.2
      refine ⟨_, rfl, .inl ⟨rfl, _, SqL.of hm⟩, _, rfl, m, _, rfl, .inl (SqL.of hm), _, _, rfl, rfl, .inr ⟨by decide, by decide⟩, _, _, rfl, rfl, by show (0 : Int) < 26; decide, _, _, _, rfl, rfl, by decide +kernel, hcc, ?_⟩
      have et : Txt.mul ⟨#[97 + ((((tjs k).length : Nat) : Int) * 7 % 26).toNat]⟩ (1 + (((tjs k).length : Nat) : Int) / 26) = tj k := by
        rw [lk]
        unfold tj cj
        rw [show (((k : Nat) : Int) * 7 % 26).toNat = k * 7 % 26 by omega]
      refine ⟨_, rfl, m, _, rfl, .inl (SqL.of hm), _, _, rfl, rfl, ⟨by decide, by decide⟩, _, _, rfl, rfl, _, _, rfl, rfl, by show 1 ≤ 16; decide, by omega, by omega, m, _, _, rfl, rfl, hm, sz5' (by omega), ?_⟩
      have e2 : upd H m (.lst (tjs k ++ [.str (Txt.mul ⟨#[97 + ((((tjs k).length : Nat) : Int) * 7 % 26).toNat]⟩ (1 + (((tjs k).length : Nat) : Int) / 26))])) m = some (.lst (tjs k ++ [.str (tj k)])) := by rw [upd_same, et]
      have K2 : Keep [m] H (upd H m (.lst (tjs k ++ [.str (Txt.mul ⟨#[97 + ((((tjs k).length : Nat) : Int) * 7 % 26).toNat]⟩ (1 + (((tjs k).length : Nat) : Int) / 26))]))) := (Keep.refl _ _).mut (by simp)
      generalize upd H m (.lst (tjs k ++ [.str (Txt.mul ⟨#[97 + ((((tjs k).length : Nat) : Int) * 7 % 26).toNat]⟩ (1 + (((tjs k).length : Nat) : Int) / 26))])) = H2 at K2 e2
      refine ⟨_, rfl, _, rfl, m, _, _, _, rfl, rfl, SqL.of e2, atI_last _ _, by show 2 ≤ sizeLine; decide, fun t ht => ?_⟩
      refine q _ (.name (tj k)) _ 1 (K2.new ht) (by rw [tjs_succ]; exact (same_new ht _) _ _ e2) (by omega) (mk_name upd_same) (.inl rfl) ?_
      simp [Say.nm]
    · refine ifF (fun e => head_app (V.str.inj e)) ?_
      obtain ⟨ax', bx, xps, e, hx1, hx2, hx3⟩ := is_app hv
      cases e
      have h3 : ps.length ≤ 3 := hok.2.1
      have lx : xps.length = ps.length := by rw [hx3.len, List.length_map]
      have NT := Keep.noTupL hm
      refine ⟨_, rfl, _, _, _, .str wd, rfl, rfl, SqT.of hx1, rfl, _, rfl, _, _, _, .ref bx, rfl, rfl, SqT.of hx1, rfl, bx, rfl, ⟨_, SqT.of hx2⟩, fun Z hZ => ?_⟩
      have hZm : m ≠ Z := ne_of_none hm hZ
      refine lc_it (walk_tup (xs := xps)) (fun i H' => ∃ (c : Nat) (vs : List V) (ss : List Say), Keep [m] H H' ∧ H' m = some (.lst (tjs (k + c))) ∧ c ≤ i * 4 ^ n ∧ H' Z = some (.lst vs) ∧ IsA H' vs (ss.map Say.da) ∧ ss.length = i ∧ (∀ z ∈ ss, Say.ok PN n z) ∧ ss.flatMap Say.nm = (List.range' k c).map tj) ?_ ?_ ?_ ?_
      · exact ⟨0, [], [], (Keep.refl _ _).new hZ, (same_new hZ _) _ _ hm, by omega, upd_same, .nil, rfl, by simp, rfl⟩
      · rintro i H1 _ ⟨c, vs, ss, K1, _⟩
        exact SqT.of (K1.tups NT _ _ hx2)
      · rintro i x H1 H2 hi ⟨c, vs, ss, K1, hm1, hl1, hZ1, IA1, hss, hoks, hnm⟩ ⟨rfl, hx⟩
        obtain ⟨pi, hpi, ixp⟩ := hx3.map_get hx
        have hi3' : i * 4 ^ n ≤ 2 * 4 ^ n := Nat.mul_le_mul_right _ (by omega)
        refine ⟨rfl, yes_if ?_⟩
        refine ⟨_, rfl, _, rfl, x, m, k + c, pi, rfl, ixp.mono (K1.tups NT), hok.2.2 pi (List.mem_of_getElem? hpi), hm1, by omega, fun v' p' H3 c3 K3 hm3 hl3 I3 o3 n3 => ?_⟩
        have hZ3 : H3 Z = some (.lst vs) := K3.at hZ1 (by simp [Ne.symm hZm])
        have lvs : vs.length = i := by rw [IA1.len, List.length_map, hss]
        have N4 : TupS H3 (upd H3 Z (.lst (vs ++ [v']))) := (TupS.refl _).mutL hZ3
        refine ⟨vs, hZ3, small1000 (by omega), c + c3, vs ++ [v'], ss ++ [p'], (K1.trans K3).mutN hZ, by rw [upd_ne hZm, ← Nat.add_assoc]; exact hm3, by rw [Nat.succ_mul]; omega, upd_same, ?_, by rw [List.length_append, hss]; rfl, ?_, ?_⟩
        · rw [List.map_append]
          exact ((IA1.mono (K3.tups (Keep.noTupL hm1))).mono N4).app (.cons (I3.mono N4) .nil)
        · intro z hz
          rcases List.mem_append.mp hz with h | h
          · exact hoks z h
          · rw [List.mem_singleton.mp h]; exact o3
        · rw [List.flatMap_append, hnm]
          have : [p'].flatMap Say.nm = p'.nm := by simp
          rw [this, n3, ← List.map_append, List.range'_append_1]
      · rintro H1 ⟨c, vs, ss, K1, hm1, hl1, hZ1, IA1, hss, hoks, hnm⟩
        have hm3 : xps.length * 4 ^ n ≤ 3 * 4 ^ n := Nat.mul_le_mul_right _ (by omega)
        refine ⟨Z, vs, rfl, .inl ⟨SqL.of hZ1, fun l hl => ?_⟩⟩
        refine ⟨by show 3 ≤ sizeLine; decide, fun t ht => ?_⟩
        have N1 := (same_new hl (.tup vs)).tups
        have N2 := (same_new ht (.tup [.str "made", .str wd, .ref l])).tups
        refine q _ (.app false wd ss) _ c ((K1.new hl).new ht) ((same_new ht _) _ _ ((same_new hl _) _ _ hm1)) (by omega) (mk_app upd_same (N2 _ _ upd_same) ((IA1.mono N1).mono N2)) ⟨.inr rfl, by omega, hoks⟩ ?_
        rw [nm_app]
        exact hnm
/-! ### parted -/
abbrev s_parted : Stmt := top 16
abbrev N_parted : List Str := ["_law_pattern", "_law_thing", "_law_there", "_law_path", "_law_node", "_law_other"]
abbrev P_parted : List Str := ["_law_pattern", "_law_thing"]
theorem sc_parted : FnScope N_parted P_parted (defScope s_parted) := ⟨rfl, rfl, rfl, by decide +kernel, rfl, by decide +kernel, by decide +kernel⟩
def spParted : Sp := fun vs H Q _ => ∃ (v u : V) (p t : Say) (n m : Nat), vs = [v, u] ∧ Is H v p.da ∧ Is H u t.da ∧ Say.ok PN n p ∧ n ≤ 8 ∧ Say.ok (fun _ => True) m t ∧ m ≤ 8 ∧ ∀ H', Same H H' → Q (.bl (bad p t [])) H'
theorem ok_parted (T : Bt mg) (C_parted : Cal K mg "_law_parted" s_parted P_parted f fd) (C_nodes_of : Cal K mg "nodes_of" s_nodes_of P_nodes_of fp fpd) (G_nodes_of : FnOk P w K mg base CX0 2 fp fpd P_nodes_of spNodes) : FnOk P w K mg base CX0 3 f fd P_parted spParted := by
  refine C_parted.F.ok sc_parted (fun vs H Q E h => ?_) (fun cdv A outer s H vs Q E hr h => ?_)
  · obtain ⟨v, u, p, t, n, m, rfl, _⟩ := h
    rfl
  obtain ⟨v, u, p, t, n, m, rfl, hv, hu, hp, hn8, ht, hm8, q⟩ := h
  refine ⟨_, PSs.nox (pss_cons (ps_set (i := 2) sc_parted.nd rfl (Or.inl rfl) (pe_callTy (call_dictT (by rfl) hr.units) (by rfl) T.t_dict (by decide +kernel) (pa_cons (pe_call G_nodes_of (hr.mono (by omega)) (by rfl) C_nodes_of.m C_nodes_of.F.kp C_nodes_of.b .nil pass0 (pa_cons (pv 1) pa_nil)) pa_nil)))
    (pss_cons (ps_for PassesOwn.never (by rfl) (pi_tup (pe_call G_nodes_of (hr.mono (by omega)) (by rfl) C_nodes_of.m C_nodes_of.F.kp C_nodes_of.b .nil pass0 (pa_cons (pv 0) pa_nil))) (pg_tup (by rfl) (pgs_cons (pg_name (i := 3) sc_parted.nd rfl (Or.inl rfl)) (pgs_cons (pg_name (i := 4) sc_parted.nd rfl (Or.inl rfl)) pgs_nil))) (pss_one (ps_if (pt_cmpR op_eq (pe_ix ix_tup (pv 4) pe_int (fun _ _ => rfl)) pe_str (nomark _)) (pss_cons (ps_set (i := 5) sc_parted.nd rfl (Or.inl rfl) (pe_dget2 (hu_of hr) (pv 2) (pv 3) (pe_tup (pa_cons pe_str pa_nil)) ⟨by rfl, by rfl, by rfl, by rfl⟩))
    (pss_one (ps_if (PW.pt (pw_or (pt_cmpR op_ne (pe_ix ix_tup (pv 5) pe_int (fun _ _ => rfl)) pe_str (nomark _)) (pw_or (pt_cmpR op_ne (pe_ix ix_tup (pv 5) pe_int (fun _ _ => rfl)) (pe_ix ix_tup (pv 4) pe_int (fun _ _ => rfl)) (nomark _)) (pw_or1 (pt_cmpR op_ne (pe_callB call_len_seq (by rfl) T.t_len (by decide +kernel) (pa_cons (pe_ix ix_tup (pv 5) pe_int (fun _ _ => rfl)) pa_nil)) (pe_callB call_len_seq (by rfl) T.t_len (by decide +kernel) (pa_cons (pe_ix ix_tup (pv 4) pe_int (fun _ _ => rfl)) pa_nil)) (nomark _)))))) (pss_one (ps_ret pe_bl)) pss_nil))) pss_nil)))
    (pss_one (ps_ret pe_bl)))), ?_⟩
  refine ⟨_, rfl, u, t, m, rfl, hu, ht, hm8, fun a o xs H1 S1 ha hod hxs => ?_⟩
  obtain ⟨pq, rfl, hpq⟩ := pqs_of hxs
  refine ⟨a, o, pq, rfl, ha, hod, fun z hz => ?_, pq_nodup hpq (nod_nodup [] ht), fun D hD => ?_⟩
  · obtain ⟨y, hy⟩ := pq_mem hpq z hz
    exact ⟨hy.t, hy.b⟩
  have S2 := S1.new hD (o := .dT (pq.map fun q => (q.k, q.v)))
  have hpq2 := PqOk.mono (same_new hD (.dT (pq.map fun q => (q.k, q.v)))).tups hpq
  have eD : upd H1 D (.dT (pq.map fun q => (q.k, q.v))) D = some (.dT (pq.map fun q => (q.k, q.v))) := upd_same
  generalize upd H1 D (.dT (pq.map fun q => (q.k, q.v))) = H2 at S2 hpq2 eD
  refine ⟨_, rfl, v, p, n, rfl, hv.mono S2.tups, Say.ok_imp (fun _ _ => True.intro) hp, hn8, fun b o2 ys H3 S3 hb _ hys => ?_⟩
  have lys : ys.length = (p.nod []).length := by rw [hys.len, List.length_map]
  refine ⟨b, rfl, ⟨_, sqF hb⟩, ?_⟩
  refine for_it (walk_tup (xs := ys)) (fun i σ H' => Same H3 H' ∧ ((p.nod []).take i).any (badAt (t.nod [])) = false ∧ ∃ y3 y4 y5, σ = [some v, some u, some (.ref D), y3, y4, y5]) ?_ ?_ ?_ ?_
  · exact ⟨Same.refl _, rfl, _, _, _, rfl⟩
  · rintro i σ H4 _ ⟨S4, _⟩
    exact sqF (S4 _ _ hb)
  · rintro i x σ H4 H5 hi ⟨S4, hno, y3, y4, y5, rfl⟩ ⟨rfl, hx⟩
    obtain ⟨z, hz, hxz⟩ := hys.map_get hx
    obtain ⟨c, d, y, pxs, rfl, hc, hd, hpx, hy⟩ := is_nd (hxz.mono S4.tups)
    obtain ⟨e, r, rfl, he⟩ := is_head hy
    have S24 := S3.trans S4
    have hpq4 := PqOk.mono S24.tups hpq2
    have eD4 := S24 _ _ eD
    have zmem : z ∈ p.nod [] := List.mem_of_getElem? hz
    have S04 := S2.trans S24
    have badT : badAt (t.nod []) z = true → bad p t [] = true := fun h => by
      unfold bad
      exact List.any_eq_true.mpr ⟨z, zmem, h⟩
    have step : badAt (t.nod []) z = false → ((p.nod []).take (i + 1)).any (badAt (t.nod [])) = false := fun h => by
      rw [List.take_add_one, hz, List.any_append, hno]
      simpa using h
    refine ⟨c, _, rfl, SqT.of hc, rfl, _, _, rfl, _, _, rfl, rfl, ?_⟩
    refine ⟨_, rfl, e, _, _, .str z.2.head, rfl, rfl, SqT.of he, at0, rfl, _, rfl, ?_⟩
    by_cases hmd : z.2.head = "made"
    · refine ifT (congrArg V.str hmd) ?_
      obtain ⟨wd, ps, ezs⟩ := head_made hmd
      rw [ezs] at hy
      obtain ⟨e', bx, xps, ee, hx1, hx2, hx3⟩ := is_app hy
      cases ee
      have lx : xps.length = ps.length := by rw [hx3.len, List.length_map]
      refine ⟨_, rfl, D, rfl, .inr ⟨_, .inl eD4⟩, _, rfl, by show 1 ≤ sizeLine; decide, fun t2 ht2 => ?_⟩
      have S5 := same_new ht2 (.tup [.str "none"])
      have en : upd H5 t2 (.tup [.str "none"]) t2 = some (.tup [.str "none"]) := upd_same
      have hd5 : upd H5 t2 (.tup [.str "none"]) d = some (.tup ((pk z.1).map kV)) := by
        rw [pk_kV, ← ints_of hpx]
        exact S5 _ _ hd
      have eD5 := S5 _ _ eD4
      have hpq5 := PqOk.mono S5.tups hpq4
      have hx15 := S5 _ _ hx1
      have hx25 := S5 _ _ hx2
      have S05 := S04.trans S5
      generalize upd H5 t2 (.tup [.str "none"]) = H6 at S5 en hd5 eD5 hpq5 hx15 hx25 S05
      refine ⟨valV (pq.map fun q => (q.k, q.v)) (pk z.1), DGet.t eD5 hd5, ?_⟩
      have zz : badAt (t.nod []) z = match ndAt (t.nod []) z.1 with
          | some (.app false w' ts) => !(decide (w' = wd) && decide (ts.length = ps.length))
          | _ => true := by
        obtain ⟨zp, zs⟩ := z
        dsimp only at ezs
        subst ezs
        rfl
      rcases val_nd (p := z.1) hpq5 with ⟨h1, h2⟩ | ⟨s1, v1, h1, h2, h3⟩
      · rw [h2]
        refine ⟨_, rfl, t2, _, _, .str "none", rfl, rfl, SqT.of en, rfl, rfl, _, rfl, ?_⟩
        refine ifBT (by decide) ?_
        have := q H6 S05
        rw [badT (by rw [zz, h1])] at this
        exact this
      · rw [h2]
        obtain ⟨g, r2, rfl, hg⟩ := is_head h3
        refine ⟨_, rfl, g, _, _, .str s1.head, rfl, rfl, SqT.of hg, at0, rfl, _, rfl, ?_⟩
        by_cases hm1 : s1.head = "made"
        · refine ifBF (by rw [decide_eq_true (congrArg V.str hm1)]; rfl) ?_
          obtain ⟨wd', ts, rfl⟩ := head_made hm1
          obtain ⟨g', by_, yts, ee, hy1, hy2, hy3⟩ := is_app h3
          cases ee
          have ly : yts.length = ts.length := by rw [hy3.len, List.length_map]
          have zz' : badAt (t.nod []) z = !(decide (wd' = wd) && decide (ts.length = ps.length)) := by rw [zz, h1]
          refine ⟨_, rfl, _, _, _, .str wd', rfl, rfl, SqT.of hy1, rfl, _, rfl, _, _, _, .str wd, rfl, rfl, SqT.of hx15, rfl, rfl, _, rfl, ?_⟩
          by_cases hwe : wd' = wd
          · refine ifBF (by rw [decide_eq_true (congrArg V.str hwe)]; rfl) ?_
            refine ⟨_, rfl, _, _, _, .ref by_, rfl, rfl, SqT.of hy1, rfl, by_, _, rfl, .inr (SqT.of hy2), _, rfl, _, _, _, .ref bx, rfl, rfl, SqT.of hx15, rfl, bx, _, rfl, .inr (SqT.of hx25), rfl, _, rfl, ?_⟩
            by_cases hle : yts.length = xps.length
            · refine ifBF (by rw [decide_eq_true (congrArg V.int (show ((yts.length : Nat) : Int) = ((xps.length : Nat) : Int) by omega))]; rfl) ?_
              refine ⟨S4.trans S5, step ?_, _, _, _, rfl⟩
              rw [zz', decide_eq_true hwe, decide_eq_true (show ts.length = ps.length by omega)]
              rfl
            · refine ifBT (by rw [decide_eq_false (fun e => hle (by have := V.int.inj e; omega))]; rfl) ?_
              have := q H6 S05
              rw [badT (by rw [zz', decide_eq_false (show ¬ ts.length = ps.length by omega), Bool.and_false]; rfl)] at this
              exact this
          · refine ifBT (by rw [decide_eq_false (fun e => hwe (V.str.inj e))]; rfl) ?_
            have := q H6 S05
            rw [badT (by rw [zz', decide_eq_false hwe, Bool.false_and]; rfl)] at this
            exact this
        · refine ifBT (by rw [decide_eq_false (fun e => hm1 (V.str.inj e))]; rfl) ?_
          have := q H6 S05
          rw [badT (by
            rw [zz, h1]
            cases s1 with
            | app c w' ts =>
              cases c with
              | false => exact absurd rfl hm1
              | true => rfl
            | _ => rfl)] at this
          exact this
    · refine ifF (fun e => hmd (V.str.inj e)) ?_
      refine ⟨S4, step ?_, _, _, _, rfl⟩
      unfold badAt
      obtain ⟨zp, zs⟩ := z
      cases zs with
      | app c w' ts =>
        cases c with
        | false => exact absurd rfl hmd
        | true => rfl
      | _ => rfl
  · rintro σ H4 ⟨S4, hno, y3, y4, y5, rfl⟩
    rw [lys, List.take_length] at hno
    have := q H4 ((S2.trans S3).trans S4)
    unfold bad at this
    rw [hno] at this
    exact this
end
end Nf


set_option Elab.async false
set_option linter.all false
set_option maxRecDepth 100000
namespace Nf
open PySem L2
section
variable {P : Program} {w : World} {K : PySem.W.Frag} {mg : Str → Option Value} {base : Heap} {f fp a1 a2 a3 a4 a5 a6 a7 a8 a9 : Addr} {fd fpd d1 d2 d3 d4 d5 d6 d7 d8 d9 : FuncData}
/-! ### right -/
theorem isA_str5 {H : Hp} : ∀ l : List Str, IsA H (l.map V.str) (l.map Da.str)
  | [] => .nil
  | x :: l => .cons (.str x) (isA_str5 l)
abbrev s_right : Stmt := top 17
abbrev N_right : List Str := ["_law_pattern", "_law_thing", "_law_fills", "_law_name_here", "_law_one"]
abbrev P_right : List Str := ["_law_pattern", "_law_thing"]
theorem sc_right : FnScope N_right P_right (defScope s_right) := ⟨rfl, rfl, rfl, by decide +kernel, rfl, by decide +kernel, by decide +kernel⟩
def spRight : Sp := fun vs H Q _ => ∃ (v u : V) (p t : Say), vs = [v, u] ∧ Is H v p.da ∧ Is H u t.da ∧ Say.ok PN 4 p ∧ p.nm.Nodup ∧ Say.ok (fun _ => True) 7 t ∧ ∀ H', Same H H' → Q (.bl true) H'
theorem ok_right (T : Bt mg) (C_right : Cal K mg "_law_right" s_right P_right f fd)
    (C_fitted : Cal K mg "fitted" s_fitted P_fitted a1 d1) (G_fitted : FnOk P w K mg base CX0 1 a1 d1 P_fitted spFitted)
    (C_parted : Cal K mg "_law_parted" s_parted P_parted a2 d2) (G_parted : FnOk P w K mg base CX0 3 a2 d2 P_parted spParted)
    (C_names_of : Cal K mg "names_of" s_names_of P_names_of a3 d3) (G_names_of : FnOk P w K mg base CX0 3 a3 d3 P_names_of spNames)
    (C_filled : Cal K mg "filled" s_filled P_filled a4 d4) (G_filled : FnOk P w K mg base CX0 (4 + 3) a4 d4 P_filled (spFilled 4))
    (C_same : Cal K mg "_law_same" s_same P_same a5 d5) (G_same : FnOk P w K mg base CX0 18 a5 d5 P_same (spSame 18)) : FnOk P w K mg base CX0 19 f fd P_right spRight := by
  refine C_right.F.ok sc_right (fun vs H Q E h => ?_) (fun cdv A outer s H vs Q E hr h => ?_)
  · obtain ⟨v, u, p, t, rfl, _⟩ := h
    rfl
  obtain ⟨v, u, p, t, rfl, hv, hu, hp, hnd, ht, q⟩ := h
  refine ⟨_, PSs.nox (pss_cons (ps_set (i := 2) sc_right.nd rfl (Or.inl rfl) (pe_call G_fitted (hr.mono (by omega)) (by rfl) C_fitted.m C_fitted.F.kp C_fitted.b .nil pass0 (pa_cons (pv 0) (pa_cons (pv 1) pa_nil))))
    (pss_cons (ps_if (pt_cmpR op_isN (pv 2) pe_non (nomark _)) (pss_one (ps_ret (pe_call G_parted (hr.mono (by omega)) (by rfl) C_parted.m C_parted.F.kp C_parted.b .nil pass0 (pa_cons (pv 0) (pa_cons (pv 1) pa_nil))))) pss_nil)
    (pss_cons (ps_if (pt_not (pt_val (pe_callB call_isi (by rfl) T.t_isinstance (by decide +kernel) (pa_cons (pv 2) (pa_cons (pe_bltn (v := .ty "tuple") (by rfl) T.t_tuple (by decide +kernel) rfl) pa_nil))))) (pss_one (ps_ret pe_bl)) pss_nil)
    (pss_cons (ps_if (pt_not (pt_val (pe_call G_same (hr.mono (by omega)) (by rfl) C_same.m C_same.F.kp C_same.b .nil pass0 (pa_cons (pe_callTy call_tuple_of (by rfl) T.t_tuple (by decide +kernel) (pa_cons (pe_lc (own := [("_law_name_here", 3), ("_law_one", 4)]) (g := gTup _ 2 (gCons (gName 3) (gCons (gName 4) gNil))) (tt := tYes) (by rfl) sc_right.nd (pi_tup (pv 2)) (blkOk_by (own := [("_law_name_here", 3), ("_law_one", 4)]) (N := N_right) (sc := defScope s_right) (by decide +kernel)) (fun _ _ _ _ _ => (pg_tup rfl (pgs_cons (pg_name (i := 3) sc_right.nd rfl (Or.inl rfl)) (pgs_cons (pg_name (i := 4) sc_right.nd rfl (Or.inl rfl)) pgs_nil)))) (fun _ _ _ _ _ => pts_nil) (fun _ _ _ _ _ => (pv 3))) pa_nil)) (pa_cons (pe_call G_names_of (hr.mono (by omega)) (by rfl) C_names_of.m C_names_of.F.kp C_names_of.b .nil pass0 (pa_cons (pv 0) pa_nil)) pa_nil))))) (pss_one (ps_ret pe_bl)) pss_nil)
    (pss_one (ps_ret (pe_and (pe_not (pe_call G_parted (hr.mono (by omega)) (by rfl) C_parted.m C_parted.F.kp C_parted.b .nil pass0 (pa_cons (pv 0) (pa_cons (pv 1) pa_nil)))) (pe_one (pe_call G_same (hr.mono (by omega)) (by rfl) C_same.m C_same.F.kp C_same.b .nil pass0 (pa_cons (pe_call G_filled (hr.mono (by omega)) (by rfl) C_filled.m C_filled.F.kp C_filled.b .nil pass0 (pa_cons (pv 0) (pa_cons (pv 2) pa_nil))) (pa_cons (pv 1) pa_nil))))))))))), ?_⟩
  have hb : bad p t [] = (fit p t).isNone := bad_fit [] hp ht
  refine ⟨_, rfl, _, rfl, v, u, p, t, 4, rfl, hv, hu, hp, by decide, fun r H1 S1 I1 => ?_⟩
  cases hf : fit p t with
  | none =>
    rw [hf] at I1 hb
    cases I1
    refine ⟨_, rfl, rfl, _, rfl, ?_⟩
    refine iteT ?_
    refine ⟨_, rfl, _, rfl, v, u, p, t, 4, 7, rfl, hv.mono S1.tups, hu.mono S1.tups, hp, by decide, ht, by decide, fun H2 S2 => ?_⟩
    rw [hb]
    exact q _ (S1.trans S2)
  | some fs =>
    have hfd := fitDa_dep hp ht (by decide)
    rw [hf] at I1 hb hfd
    obtain ⟨hfl, hfo⟩ := fit_ok hp ht hf
    have hk := fit_keys hp hf
    obtain ⟨a, xs, rfl, ha, hxs⟩ := is_fl I1
    have tx : TyX K H1 (.ref a) (.type "tuple") := .base (.tup ha)
    have h256 : fs.length ≤ 256 := hfl
    have lxs : xs.length = fs.length := by rw [hxs.len, List.length_map]
    refine ⟨_, rfl, rfl, _, rfl, ?_⟩
    refine iteF ?_
    refine ⟨_, rfl, _, _, _, _, true, rfl, .ty _, tx, kit_ty (by decide +kernel), ?_⟩
    refine ⟨_, rfl, ?_⟩
    refine iteF ?_
    refine ⟨_, rfl, a, rfl, ⟨_, SqT.of ha⟩, fun Z hZ => ?_⟩
    refine lc_it (walk_tup (xs := xs)) (fun i H' => Same H1 H' ∧ H' Z = some (.lst ((p.nm.take i).map V.str))) ?_ ?_ ?_ ?_
    · exact ⟨same_new hZ _, upd_same⟩
    · rintro i H2 _ ⟨S2, _⟩
      exact SqT.of (S2 _ _ ha)
    · rintro i x H2 H3 hi ⟨S2, hZ2⟩ ⟨rfl, hx⟩
      obtain ⟨z, hz, hxz⟩ := hxs.map_get hx
      obtain ⟨b, y, rfl, hb, hy⟩ := is_pair (hxz.mono S2.tups)
      refine ⟨b, _, rfl, SqT.of hb, rfl, _, _, rfl, _, _, rfl, rfl, rfl, ?_⟩
      refine yes_if ?_
      have hpn : p.nm[i]? = some z.1 := by rw [← hk, List.getElem?_map, hz]; rfl
      refine ⟨_, rfl, _, hZ2, small1000 (by rw [List.length_map, List.length_take]; omega), S2.mutN hZ, ?_⟩
      rw [upd_same, List.take_add_one, hpn, List.map_append]
      rfl
    · rintro H2 ⟨S2, hZ2⟩
      have lpn : xs.length = p.nm.length := by rw [lxs, ← hk, List.length_map]
      rw [lpn, List.take_length] at hZ2
      refine ⟨Z, _, rfl, .inl ⟨SqL.of hZ2, fun l hl => ?_⟩⟩
      have S3 := (S1.trans S2).new hl (o := .tup (p.nm.map V.str))
      have S13 := S2.new hl (o := .tup (p.nm.map V.str))
      have e3 : upd H2 l (.tup (p.nm.map V.str)) l = some (.tup (p.nm.map V.str)) := upd_same
      generalize upd H2 l (.tup (p.nm.map V.str)) = H3 at S3 S13 e3
      refine ⟨_, rfl, v, p, 4, rfl, hv.mono S3.tups, Say.ok_imp (fun _ _ => True.intro) hp, by decide, fun a2 H4 S4 h4 => ?_⟩
      have eun : unames (p.nod []) = p.nm := by
        have := nm_nod [] hp
        rw [unames_eq _ (by rw [this]; exact hnd), this]
      rw [eun] at h4
      have S04 := S3.trans S4
      have S14 := S13.trans S4
      refine ⟨_, _, .tup (p.nm.map Da.str), .tup (p.nm.map Da.str), rfl, .tup (S4 _ _ e3) (isA_str5 _), .tup h4 (isA_str5 _), ⟨by rw [List.length_map]; omega, fun d hd => ?_⟩, fun H5 S5 => ?_⟩
      · obtain ⟨z, _, rfl⟩ := List.mem_map.mp hd
        exact True.intro
      rw [Da.eq_refl]
      refine ⟨_, rfl, ?_⟩
      refine iteF ?_
      have S05 := S04.trans S5
      have S15 := S14.trans S5
      refine ⟨_, rfl, _, rfl, v, u, p, t, 4, 7, rfl, hv.mono S05.tups, hu.mono S05.tups, hp, by decide, ht, by decide, fun H6 S6 => ?_⟩
      rw [hb]
      have S06 := S05.trans S6
      have S16 := S15.trans S6
      refine ⟨_, rfl, _, rfl, ?_⟩
      refine iteT ?_
      refine ⟨_, rfl, _, rfl, v, .ref a, p, fs, rfl, hv.mono S06.tups, Say.ok_imp (fun _ _ => True.intro) hp, I1.mono S16.tups, by omega, by rw [hk]; exact hnd, fun v7 H7 S7 I7 => ?_⟩
      rw [fit_back hp hnd hf] at I7
      have S07 := S06.trans S7
      refine ⟨_, rfl, v7, u, t.da, t.da, rfl, I7, hu.mono S07.tups, Da.dep_mono (by decide) (Say.dep ht), fun H8 S8 => ?_⟩
      rw [Da.eq_refl]
      exact q _ (S07.trans S8)
end
end Nf


set_option Elab.async false
set_option linter.all false
set_option maxRecDepth 100000
namespace Nf
open PySem L2
section
variable {P : Program} {w : World} {K : PySem.W.Frag} {mg : Str → Option Value} {base : Heap} {f fp a1 a2 a3 a4 a5 a6 a7 a8 a9 : Addr} {fd fpd d1 d2 d3 d4 d5 d6 d7 d8 d9 : FuncData}
/-! ### the law -/
abbrev s_law : Stmt := top 18
abbrev N_law : List Str := ["_law_script", "_law_deck_here", "_law_turn", "_law_number", "_law_pattern", "_law_fills", "_law_name_here", "_law_thing", "_law_other", "_law_second"]
abbrev P_law : List Str := ["_law_script"]
theorem sc_law : FnScope N_law P_law (defScope s_law) := ⟨rfl, rfl, rfl, by decide +kernel, rfl, by decide +kernel, by decide +kernel⟩
theorem eD05 (b i x : Nat) (hx : x = 5120) : b + i * 5121 + 1 + x ≤ b + (i + 1) * 5121 := by omega
theorem eD05' (j i x : Nat) (hi : i ≤ 256) (hx : x = 5120) : j * 1400000 + 1 + x + i * 5121 + x + x ≤ (j + 1) * 1400000 := by omega
theorem eD05b (j i x : Nat) (hj : j < 10) (hi : i ≤ 256) (hx : x = 5120) : j * 1400000 + 1 + x + i * 5121 + x + x + x < 2 ^ 40 := by omega
theorem eD05c (j i x : Nat) (hj : j < 10) (hi : i ≤ 256) (hx : x = 5120) : j * 1400000 + 1 + x + i * 5121 + 1 + x < 2 ^ 40 := by omega
theorem eD05n (j i x : Nat) (hj : j < 10) (hi : i ≤ 256) (hx : x = 5120) : j * 1400000 + 1 + x + i * 5121 < 2 ^ 40 := by omega
theorem pn_of {ws : List Str} (h : ∀ x ∈ ws, x = "name" ∨ x = "made") {n m : Nat} {s : Say} (hl : n ≤ m) (o : Say.ok (fun x => x ∈ ws ∨ x = "made") n s) : Say.ok PN m s :=
  Say.ok_mono hl (Say.ok_imp (fun x hx => by
      unfold PN
      rcases hx with e | e
      · exact h x e
      · exact .inr e) o)
theorem heads_nms : ∀ x ∈ (["name", "made", "skip"] : List Str), x ∈ heads6 := fun x hx => by
  unfold heads6
  simp only [List.mem_cons, List.not_mem_nil, or_false] at hx ⊢
  rcases hx with h | h | h <;> simp [h]
theorem heads_mn : ∀ x ∈ (["made", "name"] : List Str), x ∈ heads6 := fun x hx => by
  unfold heads6
  simp only [List.mem_cons, List.not_mem_nil, or_false] at hx ⊢
  rcases hx with h | h <;> simp [h]
theorem un_nodup {c : Nat} {p : Say} (h : p.nm = (List.range' 0 c).map tj) : p.nm.Nodup := by
  rw [h, ← List.range_eq_range']
  exact tj_nodup c
def spLaw (K : PySem.W.Frag) : Sp := fun vs H Q _ => ∃ (a : Addr) (ns : List Int), vs = [.ref a] ∧ SqL K H a (ns.map V.int) ∧ ns.length ≤ 63 ∧ ∀ H', Q (.bl true) H'
theorem ok_law (T : Bt mg) (C_law : Cal K mg "law" s_law P_law f fd) (C_deck : Cal K mg "_law_deck" s_deck P_deck a1 d1) (G_deck : FnOk P w K mg base CX0 1 a1 d1 P_deck (spDeck K))
    (C_next : Cal K mg "_law_next" s_next P_next a2 d2) (G_next : FnOk P w K mg base CX0 1 a2 d2 P_next spNext)
    (C_any : Cal K mg "_law_any" s_any P_any a3 d3) (G_any : FnOk P w K mg base CX0 (4 + 3) a3 d3 P_any (spAny 4))
    (C_same : Cal K mg "_law_same" s_same P_same a4 d4) (G_same : FnOk P w K mg base CX0 18 a4 d4 P_same (spSame 18))
    (C_fitted : Cal K mg "fitted" s_fitted P_fitted a5 d5) (G_fitted : FnOk P w K mg base CX0 1 a5 d5 P_fitted spFitted)
    (C_names_of : Cal K mg "names_of" s_names_of P_names_of a6 d6) (G_names_of : FnOk P w K mg base CX0 3 a6 d6 P_names_of spNames)
    (C_unlike : Cal K mg "_law_unlike" s_unlike P_unlike a7 d7) (G_unlike : FnOk P w K mg base CX0 4 a7 d7 P_unlike (spUnlike 4))
    (C_filled : Cal K mg "filled" s_filled P_filled a8 d8) (G_filled : FnOk P w K mg base CX0 (4 + 3) a8 d8 P_filled (spFilled 4))
    (C_right : Cal K mg "_law_right" s_right P_right a9 d9) (G_right : FnOk P w K mg base CX0 19 a9 d9 P_right spRight) : FnOk P w K mg base CX0 20 f fd P_law (spLaw K) := by
  refine C_law.F.ok sc_law (fun vs H Q E h => ?_) (fun cdv A outer s H vs Q E hr h => ?_)
  · obtain ⟨a, ns, rfl, _⟩ := h
    rfl
  obtain ⟨a, ns, rfl, hS, h63, q⟩ := h
  refine ⟨_, PSs.nox (pss_cons (ps_set (i := 1) sc_law.nd rfl (Or.inl rfl) (pe_call G_deck (hr.mono (by omega)) (by rfl) C_deck.m C_deck.F.kp C_deck.b .nil pass0 (pa_cons (pv 0) pa_nil)))
    (pss_cons (ps_for PassesOwn.never (by rfl) (pi_range1 (by rfl) T.t_range (pa_cons pe_int pa_nil)) (pg_name (i := 2) sc_law.nd rfl (Or.inl rfl)) (pss_cons (ps_set (i := 3) sc_law.nd rfl (Or.inl rfl) (pe_call G_next (hr.mono (by omega)) (by rfl) C_next.m C_next.F.kp C_next.b .nil pass0 (pa_cons (pv 1) pa_nil)))
    (pss_cons (ps_set (i := 4) sc_law.nd rfl (Or.inl rfl) (pe_call G_unlike (hr.mono (by omega)) (by rfl) C_unlike.m C_unlike.F.kp C_unlike.b .nil pass0 (pa_cons (pe_call G_any (hr.mono (by omega)) (by rfl) C_any.m C_any.F.kp C_any.b .nil pass0 (pa_cons (pv 1) (pa_cons (pe_lst (pa_cons pe_str (pa_cons pe_str (pa_cons pe_str pa_nil)))) (pa_cons (pe_op op_add pe_int (pe_op op_mod (pv 3) pe_int)) pa_nil)))) (pa_cons (pe_lst pa_nil) pa_nil))))
    (pss_cons (ps_set (i := 5) sc_law.nd rfl (Or.inl rfl) (pe_lst pa_nil))
    (pss_cons (ps_for PassesOwn.never (by rfl) (pi_tup (pe_call G_names_of (hr.mono (by omega)) (by rfl) C_names_of.m C_names_of.F.kp C_names_of.b .nil pass0 (pa_cons (pv 4) pa_nil))) (pg_name (i := 6) sc_law.nd rfl (Or.inl rfl)) (pss_one (ps_expr (pe_bm PySem.F.plainAttrs_list PySem.F.slot_list_append PySem.F.type_list_append mt_append (pv 5) (pa_cons (pe_tup (pa_cons (pv 6) (pa_cons (pe_call G_any (hr.mono (by omega)) (by rfl) C_any.m C_any.F.kp C_any.b .nil pass0 (pa_cons (pv 1) (pa_cons (pe_lst (pa_cons pe_str (pa_cons pe_str (pa_cons pe_str pa_nil)))) (pa_cons (pe_op op_add pe_int (pe_op op_mod (pe_call G_next (hr.mono (by omega)) (by rfl) C_next.m C_next.F.kp C_next.b .nil pass0 (pa_cons (pv 1) pa_nil)) pe_int)) pa_nil)))) pa_nil))) pa_nil)))))
    (pss_cons (ps_set (i := 7) sc_law.nd rfl (Or.inl rfl) (pe_call G_filled (hr.mono (by omega)) (by rfl) C_filled.m C_filled.F.kp C_filled.b .nil pass0 (pa_cons (pv 4) (pa_cons (pe_callTy call_tuple_of (by rfl) T.t_tuple (by decide +kernel) (pa_cons (pv 5) pa_nil)) pa_nil))))
    (pss_cons (ps_if (pt_not (pt_val (pe_call G_same (hr.mono (by omega)) (by rfl) C_same.m C_same.F.kp C_same.b .nil pass0 (pa_cons (pe_call G_fitted (hr.mono (by omega)) (by rfl) C_fitted.m C_fitted.F.kp C_fitted.b .nil pass0 (pa_cons (pv 4) (pa_cons (pv 7) pa_nil))) (pa_cons (pe_callTy call_tuple_of (by rfl) T.t_tuple (by decide +kernel) (pa_cons (pv 5) pa_nil)) pa_nil))))) (pss_one (ps_ret pe_bl)) pss_nil)
    (pss_cons (ps_set (i := 8) sc_law.nd rfl (Or.inl rfl) (pe_call G_any (hr.mono (by omega)) (by rfl) C_any.m C_any.F.kp C_any.b .nil pass0 (pa_cons (pv 1) (pa_cons (pe_lst (pa_cons pe_str (pa_cons pe_str (pa_cons pe_str pa_nil)))) (pa_cons (pe_op op_add pe_int (pe_op op_mod (pe_op op_fdiv (pv 3) pe_int) pe_int)) pa_nil)))))
    (pss_cons (ps_if (PW.pt (pw_or (pt_not (pt_val (pe_call G_right (hr.mono (by omega)) (by rfl) C_right.m C_right.F.kp C_right.b .nil pass0 (pa_cons (pv 4) (pa_cons (pv 7) pa_nil))))) (pw_or1 (pt_not (pt_val (pe_call G_right (hr.mono (by omega)) (by rfl) C_right.m C_right.F.kp C_right.b .nil pass0 (pa_cons (pv 4) (pa_cons (pv 8) pa_nil)))))))) (pss_one (ps_ret pe_bl)) pss_nil)
    (pss_cons (ps_set (i := 9) sc_law.nd rfl (Or.inl rfl) (pe_call G_unlike (hr.mono (by omega)) (by rfl) C_unlike.m C_unlike.F.kp C_unlike.b .nil pass0 (pa_cons (pe_call G_any (hr.mono (by omega)) (by rfl) C_any.m C_any.F.kp C_any.b .nil pass0 (pa_cons (pv 1) (pa_cons (pe_lst (pa_cons pe_str (pa_cons pe_str pa_nil))) (pa_cons (pe_op op_add pe_int (pe_op op_mod (pe_op op_fdiv (pv 3) pe_int) pe_int)) pa_nil)))) (pa_cons (pe_lst pa_nil) pa_nil))))
    (pss_one (ps_if (PW.pt (pw_or (pt_not (pt_val (pe_call G_right (hr.mono (by omega)) (by rfl) C_right.m C_right.F.kp C_right.b .nil pass0 (pa_cons (pv 9) (pa_cons (pv 7) pa_nil))))) (pw_or1 (pt_not (pt_val (pe_call G_right (hr.mono (by omega)) (by rfl) C_right.m C_right.F.kp C_right.b .nil pass0 (pa_cons (pv 4) (pa_cons (pv 4) pa_nil)))))))) (pss_one (ps_ret pe_bl)) pss_nil))))))))))))
    (pss_one (ps_ret pe_bl)))), ?_⟩
  have c4 : cost 4 = 5120 := rfl
  refine ⟨_, rfl, a, ns, rfl, hS, h63, fun d g c H1 D1 S1 hd hg hc => ?_⟩
  refine ⟨10, rfl, by decide, by decide, ?_⟩
  refine for_range (lo := 0) (n := 10) (fun i σ H' => ∃ (y2 y3 y4 y5 y6 y7 y8 y9 : Option V), σ = [some (.ref a), some (.ref d), y2, y3, y4, y5, y6, y7, y8, y9] ∧ Deck H' d g c (i * 1400000)) ?_ ?_ ?_
  · exact ⟨_, _, _, _, _, _, _, _, rfl, by simpa using D1⟩
  · rintro i σ H4 hi ⟨y2, y3, y4, y5, y6, y7, y8, y9, rfl, D4⟩
    have hi5' : i * 1400000 ≤ 10 * 1400000 := Nat.mul_le_mul_right _ (by omega)
    have NT4 := D4.noTup
    refine ⟨_, rfl, d, g, c, _, rfl, D4, by omega, fun k H5 hk0 hk1 D5 K5 => ?_⟩
    refine ⟨_, rfl, by show 3 ≤ sizeLine; decide, fun hs hhs => ?_⟩
    have nhs := D5.not_new hhs
    have D6 := D5.new hhs (o := .lst [.str "made", .str "name", .str "made"])
    have e6 : upd H5 hs (.lst [.str "made", .str "name", .str "made"]) hs = some (.lst ((["made", "name", "made"] : List Str).map V.str)) := upd_same
    generalize upd H5 hs (.lst [.str "made", .str "name", .str "made"]) = H6 at D6 e6
    have hr4 := mod_range (k := k) (m := 4) (by decide)
    refine ⟨_, rfl, _, _, rfl, rfl, by show (0 : Int) < 4; decide, _, _, rfl, rfl, d, g, c, hs, _, (["made", "name", "made"] : List Str), 1 + k % 4, rfl, D6, e6, nhs, by decide, fun x hx => ?_, by omega, by omega, by omega, fun v s H8 D8 K8 I8 o8 => ?_⟩
    · unfold heads6
      simp only [List.mem_cons, List.not_mem_nil, or_false] at hx ⊢
      rcases hx with h | h | h <;> simp [h]
    have o8' : Say.ok PN 4 s := pn_of (fun x hx => by
      simp only [List.mem_cons, List.not_mem_nil, or_false] at hx
      rcases hx with h | h | h
      · exact .inr h
      · exact .inl h
      · exact .inr h) (by omega) o8
    refine ⟨by show 0 ≤ sizeLine; decide, fun m hm => ?_⟩
    have nm := D8.not_new hm
    refine ⟨v, m, 0, s, rfl, I8.mono (same_new hm _).tups, o8', upd_same, by decide, fun vp p H9 c9 K9 hm9 hc9 Ip op hnm => ?_⟩
    have D9 : Deck H9 d g c _ := (D8.new hm).keepB K9 (fun a ha h => nm (List.mem_singleton.mp h ▸ ha))
    have hnd := un_nodup hnm
    have opT : Say.ok (fun _ => True) 4 p := Say.ok_imp (fun _ _ => True.intro) op
    clear hm9 K9 hm I8 o8 K8 D8 D6 e6
    refine ⟨by show 0 ≤ sizeLine; decide, fun fl hfl => ?_⟩
    have nfl := D9.not_new hfl
    have D10 := D9.new hfl (o := .lst [])
    have K10 : Keep [d, g, c] H9 (upd H9 fl (.lst [])) := (Keep.refl _ _).new hfl
    have e10 : upd H9 fl (.lst []) fl = some (.lst []) := upd_same
    generalize upd H9 fl (.lst []) = H10 at D10 K10 e10
    have NT9 := D9.noTup
    refine ⟨_, rfl, vp, p, 4, rfl, Ip.mono (K10.tups NT9), opT, by decide, fun na H11 S11 hna => ?_⟩
    have eun : unames (p.nod []) = p.nm := by
      have := nm_nod [] op
      rw [unames_eq _ (by rw [this]; exact hnd), this]
    rw [eun] at hna
    have lnm : p.nm.length ≤ 256 := by rw [hnm, List.length_map, List.length_range']; exact hc9
    have K11 : Keep [d, g, c] H9 H11 := K10.trans (Keep.of_same S11)
    have D11 := D10.same S11
    have e11 := S11 _ _ e10
    have hfna : fl ≠ na := fun e => by rw [e, hna] at e11; cases e11
    refine ⟨na, rfl, ⟨_, SqT.of hna⟩, ?_⟩
    refine for_it (walk_tup (xs := p.nm.map V.str)) (fun j σ H' => ∃ (us : List V) (fs : Fl) (y6 : Option V), σ = [some (.ref a), some (.ref d), some (.int (0 + (i : Nat))), some (.int k), some vp, some (.ref fl), y6, y7, y8, y9] ∧ Deck H' d g c (i * 1400000 + 1 + cost 4 + j * 5121) ∧ Keep [d, g, c] H9 H' ∧ H' na = some (.tup (p.nm.map V.str)) ∧ H' fl = some (.lst us) ∧ IsA H' us (fs.map pairDa) ∧ fs.map Prod.fst = p.nm.take j ∧ ∀ z ∈ fs, Say.ok (fun _ => True) 3 z.2) ?_ ?_ ?_ ?_
    · exact ⟨[], [], _, rfl, by simpa using D11, K11, hna, e11, .nil, rfl, by simp⟩
    · rintro j σ H12 _ ⟨us, fs, y6, rfl, D12, K12, hna12, _⟩
      exact SqT.of hna12
    · rintro j x σ H12 H13 hj ⟨us, fs, y6, rfl, D12, K12, hna12, hfl12, IA12, hk12, ho12⟩ ⟨rfl, hx⟩
      rw [List.length_map] at hj
      rw [List.getElem?_map] at hx
      obtain ⟨y, hy, rfl⟩ := Option.map_eq_some_iff.mp hx
      have bnd0 := eD05n i j _ hi (Nat.le_of_lt (Nat.lt_of_lt_of_le hj lnm)) c4
      have bnd := eD05c i j _ hi (Nat.le_of_lt (Nat.lt_of_lt_of_le hj lnm)) c4
      refine ⟨_, rfl, .inl ⟨rfl, _, SqL.of hfl12⟩, _, rfl, _, rfl, by show 3 ≤ sizeLine; decide, fun hs2 hhs2 => ?_⟩
      have nhs2 := D12.not_new hhs2
      have D13 := D12.new hhs2 (o := .lst [.str "name", .str "made", .str "skip"])
      have K13 : Keep [d, g, c] H13 (upd H13 hs2 (.lst [.str "name", .str "made", .str "skip"])) := (Keep.refl _ _).new hhs2
      have e13 : upd H13 hs2 (.lst [.str "name", .str "made", .str "skip"]) hs2 = some (.lst ((["name", "made", "skip"] : List Str).map V.str)) := upd_same
      generalize upd H13 hs2 (.lst [.str "name", .str "made", .str "skip"]) = H14 at D13 K13 e13
      refine ⟨_, rfl, d, g, c, _, rfl, D13, bnd0, fun k2 H15 hk20 hk21 D15 K15 => ?_⟩
      have hr3 := mod_range (k := k2) (m := 3) (by decide)
      refine ⟨_, _, rfl, rfl, by show (0 : Int) < 3; decide, _, _, rfl, rfl, d, g, c, hs2, _, (["name", "made", "skip"] : List Str), 1 + k2 % 3, rfl, D15, K15.at e13 nhs2, nhs2, by decide, heads_nms, by omega, by omega, bnd, fun v2 s2 H16 D16 K16 I16 o16 => ?_⟩
      have K1316 := (K13.trans K15).trans K16
      have N1316 := K1316.tups D12.noTup
      refine ⟨by show 2 ≤ sizeLine; decide, fun t2 ht2 => ?_⟩
      have S17 := same_new ht2 (.tup [.str y, v2])
      have hfl17 := S17 _ _ (K1316.at hfl12 nfl)
      have lus : us.length = j := by
        have := congrArg List.length hk12
        rw [List.length_map, List.length_take] at this
        rw [IA12.len, List.length_map]
        omega
      refine ⟨fl, us, _, rfl, rfl, hfl17, small1000 (by omega), ?_⟩
      have N : TupS (upd H16 t2 (.tup [.str y, v2])) (upd (upd H16 t2 (.tup [.str y, v2])) fl (.lst (us ++ [.ref t2]))) := (TupS.refl _).mutL hfl17
      refine ⟨us ++ [.ref t2], fs ++ [(y, s2)], _, rfl, ((D16.new ht2).put nfl).le (eD05 _ _ _ c4), ((K12.trans K1316).new ht2).mutN hfl, N _ _ (S17 _ _ (N1316 _ _ hna12)), upd_same, ?_, ?_, ?_⟩
      · rw [List.map_append]
        refine (((IA12.mono N1316).mono S17.tups).mono N).app (.cons ?_ .nil)
        exact .tup (N _ _ upd_same) (.cons (.str y) (.cons ((I16.mono S17.tups).mono N) .nil))
      · rw [List.map_append, hk12, List.take_add_one, hy]
        rfl
      · intro z hz
        rcases List.mem_append.mp hz with h | h
        · exact ho12 z h
        · rw [List.mem_singleton.mp h]
          exact Say.ok_mono (by omega) (Say.ok_imp (fun _ _ => True.intro) o16)
    · rintro σ H12 ⟨us, fs, y6, rfl, D12, K12, hna12, hfl12, IA12, hk12, ho12⟩
      rw [List.length_map] at D12 hk12
      rw [List.take_length] at hk12
      have Ip12 := K12.is NT9 Ip
      have lfs : fs.length = p.nm.length := by rw [← hk12, List.length_map]
      refine ⟨_, rfl, _, rfl, fl, us, rfl, .inl ⟨SqL.of hfl12, fun t1 ht1 => ?_⟩⟩
      have S13 := same_new ht1 (.tup us)
      have IF13 : Is (upd H12 t1 (.tup us)) (.ref t1) (flDa fs) := .tup upd_same (IA12.mono S13.tups)
      generalize upd H12 t1 (.tup us) = H13 at S13 IF13
      refine ⟨vp, .ref t1, p, fs, rfl, Ip12.mono S13.tups, opT, IF13, by omega, by rw [hk12]; exact hnd, fun vt H14 S14 It => ?_⟩
      have ot : Say.ok (fun _ => True) 7 (p.fill fs) := Say.fill_ok ho12 opT
      have hfit : fit p (p.fill fs) = some fs := by
        rw [fit_fill op, ← hk12, lookup_fillOf (by rw [hk12]; exact hnd)]
      have hdep := fitDa_dep op ot (by decide)
      rw [hfit] at hdep
      have S1214 := S13.trans S14
      have Ip14 := Ip12.mono S1214.tups
      refine ⟨_, rfl, _, rfl, vp, vt, p, p.fill fs, 4, rfl, Ip14, It, op, by decide, fun r H15 S15 Ir => ?_⟩
      rw [hfit] at Ir
      refine ⟨_, rfl, fl, us, rfl, .inl ⟨SqL.of ((S1214.trans S15) _ _ hfl12), fun t3 ht3 => ?_⟩⟩
      have S16 := same_new ht3 (.tup us)
      have S1216 := (S1214.trans S15).trans S16
      have IF16 : Is (upd H15 t3 (.tup us)) (.ref t3) (flDa fs) := .tup upd_same (IA12.mono S1216.tups)
      have Ir16 := Ir.mono S16.tups
      have It16 := It.mono (S15.trans S16).tups
      generalize upd H15 t3 (.tup us) = H16 at S16 IF16 S1216 Ir16 It16
      refine ⟨r, .ref t3, flDa fs, flDa fs, rfl, Ir16, IF16, hdep, fun H17 S17 => ?_⟩
      rw [Da.eq_refl]
      refine ⟨_, rfl, ?_⟩
      refine iteF ?_
      have S1217 := S1216.trans S17
      have D17 := D12.same S1217
      have Ip17 := Ip12.mono S1217.tups
      have It17 := It16.mono S17.tups
      have bnd2 := eD05b i p.nm.length _ hi lnm c4
      clear hfl12 IA12 S1217 S17 Ir16 IF16 It16 S1216 S16 ht3 Ir S15 Ip14 S1214 It IF13 S13 S14 K12 hna12 Ip12 D12 K11 D11 e11 hna S11 D10 K10 e10 D9 D5 D4
      refine ⟨_, rfl, by show 3 ≤ sizeLine; decide, fun hs2 hhs2 => ?_⟩
      have nhs2 := D17.not_new hhs2
      have D18 := D17.new hhs2 (o := .lst [.str "name", .str "made", .str "skip"])
      have S18 := same_new hhs2 (.lst [.str "name", .str "made", .str "skip"])
      have e18 : upd H17 hs2 (.lst [.str "name", .str "made", .str "skip"]) hs2 = some (.lst ((["name", "made", "skip"] : List Str).map V.str)) := upd_same
      generalize upd H17 hs2 (.lst [.str "name", .str "made", .str "skip"]) = H18 at D18 S18 e18
      have hr4' := mod_range (k := k / 4) (m := 4) (by decide)
      refine ⟨_, rfl, _, _, rfl, rfl, ⟨by decide, by decide⟩, _, _, rfl, rfl, by show (0 : Int) < 4; decide, _, _, rfl, rfl, d, g, c, hs2, _, (["name", "made", "skip"] : List Str), 1 + k / 4 % 4, rfl, D18, e18, nhs2, by decide, heads_nms, by omega, by omega, Nat.lt_of_le_of_lt (Nat.le_trans (Nat.le_add_right _ _) (Nat.le_add_right _ _)) bnd2, fun vo so H19 D19 K19 Io oo => ?_⟩
      have N1719 := S18.tups.trans (K19.tups D18.noTup)
      have Ip19 := Ip17.mono N1719
      have It19 := It17.mono N1719
      have oo' : Say.ok (fun _ => True) 7 so := Say.ok_mono (by omega) (Say.ok_imp (fun _ _ => True.intro) oo)
      clear K19 e18 D18
      refine ⟨_, rfl, _, rfl, vp, vt, p, p.fill fs, rfl, Ip19, It19, op, hnd, ot, fun H20 S20 => ?_⟩
      refine ⟨_, rfl, ?_⟩
      refine iteF ?_
      refine ⟨_, rfl, _, rfl, vp, vo, p, so, rfl, Ip19.mono S20.tups, Io.mono S20.tups, op, hnd, oo', fun H21 S21 => ?_⟩
      refine ⟨_, rfl, ?_⟩
      refine iteF ?_
      have S1921 := S20.trans S21
      have D21 := D19.same S1921
      have Ip21 := Ip19.mono S1921.tups
      have It21 := It19.mono S1921.tups
      clear D19 Ip19 It19 S20 S21 S1921 Io
      refine ⟨_, rfl, by show 2 ≤ sizeLine; decide, fun hs3 hhs3 => ?_⟩
      have nhs3 := D21.not_new hhs3
      have D22 := D21.new hhs3 (o := .lst [.str "made", .str "name"])
      have S22 := same_new hhs3 (.lst [.str "made", .str "name"])
      have e22 : upd H21 hs3 (.lst [.str "made", .str "name"]) hs3 = some (.lst ((["made", "name"] : List Str).map V.str)) := upd_same
      generalize upd H21 hs3 (.lst [.str "made", .str "name"]) = H22 at D22 S22 e22
      have hr3' := mod_range (k := k / 16) (m := 3) (by decide)
      refine ⟨_, rfl, _, _, rfl, rfl, ⟨by decide, by decide⟩, _, _, rfl, rfl, by show (0 : Int) < 3; decide, _, _, rfl, rfl, d, g, c, hs3, _, (["made", "name"] : List Str), 1 + k / 16 % 3, rfl, D22, e22, nhs3, by decide, heads_mn, by omega, by omega, Nat.lt_of_le_of_lt (Nat.le_add_right _ _) bnd2, fun v3 s3 H23 D23 K23 I23 o23 => ?_⟩
      have N2123 := S22.tups.trans (K23.tups D22.noTup)
      have Ip23 := Ip21.mono N2123
      have It23 := It21.mono N2123
      have o23' : Say.ok PN 4 s3 := pn_of (fun x hx => by
        simp only [List.mem_cons, List.not_mem_nil, or_false] at hx
        rcases hx with h | h
        · exact .inr h
        · exact .inl h) (by omega) o23
      refine ⟨by show 0 ≤ sizeLine; decide, fun m2 hm2 => ?_⟩
      have nm2 := D23.not_new hm2
      have e24 : upd H23 m2 (.lst []) m2 = some (.lst []) := upd_same
      have D24 := D23.new hm2 (o := .lst [])
      have S24 := same_new hm2 (.lst [])
      generalize upd H23 m2 (.lst []) = H24 at S24 e24 D24
      refine ⟨v3, m2, 0, s3, rfl, I23.mono S24.tups, o23', e24, by decide, fun vq q2 H25 c25 K25 hm25 hc25 Iq oq hnq => ?_⟩
      have D25 : Deck H25 d g c _ := D24.keepB K25 (fun a ha h => nm2 (List.mem_singleton.mp h ▸ ha))
      have N2325 := S24.tups.trans (K25.tups (Keep.noTupL e24))
      have Ip25 := Ip23.mono N2325
      have It25 := It23.mono N2325
      refine ⟨_, rfl, _, rfl, vq, vt, q2, p.fill fs, rfl, Iq, It25, oq, un_nodup hnq, ot, fun H26 S26 => ?_⟩
      refine ⟨_, rfl, ?_⟩
      refine iteF ?_
      refine ⟨_, rfl, _, rfl, vp, vp, p, p, rfl, Ip25.mono S26.tups, Ip25.mono S26.tups, op, hnd, Say.ok_mono (by decide) opT, fun H27 S27 => ?_⟩
      refine ⟨_, rfl, ?_⟩
      refine iteF ?_
      exact ⟨_, _, _, _, _, _, _, _, rfl, (D25.same (S26.trans S27)).le (eD05' _ _ _ lnm c4)⟩
  · rintro σ H4 ⟨y2, y3, y4, y5, y6, y7, y8, y9, rfl, D4⟩
    exact q H4
end
end Nf


set_option Elab.async false
set_option linter.all false
set_option maxRecDepth 100000
set_option maxHeartbeats 0
namespace Nf
open PySem L2
def dd_parts_of : He.DefD := ⟨("parts_of", none), "parts_of", "parts_of", defArgs s_parts_of, defBody s_parts_of, defScope s_parts_of, [], []⟩
def dd_with_parts : He.DefD := ⟨("with_parts", none), "with_parts", "with_parts", defArgs s_with_parts, defBody s_with_parts, defScope s_with_parts, [], []⟩
def dd_nodes_of : He.DefD := ⟨("nodes_of", none), "nodes_of", "nodes_of", defArgs s_nodes_of, defBody s_nodes_of, defScope s_nodes_of, [], []⟩
def dd_names_of : He.DefD := ⟨("names_of", none), "names_of", "names_of", defArgs s_names_of, defBody s_names_of, defScope s_names_of, [], []⟩
def dd_filled : He.DefD := ⟨("filled", none), "filled", "filled", defArgs s_filled, defBody s_filled, defScope s_filled, [], []⟩
def dd_replaced : He.DefD := ⟨("replaced", none), "replaced", "replaced", defArgs s_replaced, defBody s_replaced, defScope s_replaced, [], []⟩
def dd_fitted : He.DefD := ⟨("fitted", none), "fitted", "fitted", defArgs s_fitted, defBody s_fitted, defScope s_fitted, [], []⟩
def dd_deck : He.DefD := ⟨("_law_deck", none), "_law_deck", "_law_deck", defArgs s_deck, defBody s_deck, defScope s_deck, [], []⟩
def dd_next : He.DefD := ⟨("_law_next", none), "_law_next", "_law_next", defArgs s_next, defBody s_next, defScope s_next, [], []⟩
def dd_same : He.DefD := ⟨("_law_same", none), "_law_same", "_law_same", defArgs s_same, defBody s_same, defScope s_same, [], []⟩
def dd_letters : He.DefD := ⟨("_law_letters", none), "_law_letters", "_law_letters", defArgs s_letters, defBody s_letters, defScope s_letters, [], []⟩
def dd_name : He.DefD := ⟨("_law_name", none), "_law_name", "_law_name", defArgs s_name, defBody s_name, defScope s_name, [], []⟩
def dd_any : He.DefD := ⟨("_law_any", none), "_law_any", "_law_any", defArgs s_any, defBody s_any, defScope s_any, [], []⟩
def dd_unlike : He.DefD := ⟨("_law_unlike", none), "_law_unlike", "_law_unlike", defArgs s_unlike, defBody s_unlike, defScope s_unlike, [], []⟩
def dd_parted : He.DefD := ⟨("_law_parted", none), "_law_parted", "_law_parted", defArgs s_parted, defBody s_parted, defScope s_parted, [], []⟩
def dd_right : He.DefD := ⟨("_law_right", none), "_law_right", "_law_right", defArgs s_right, defBody s_right, defScope s_right, [], []⟩
def dd_law : He.DefD := ⟨("law", none), "law", "law", defArgs s_law, defBody s_law, defScope s_law, [], []⟩
def fns : List He.DefD := [dd_parts_of, dd_with_parts, dd_nodes_of, dd_names_of, dd_filled, dd_replaced, dd_fitted, dd_deck, dd_next, dd_same, dd_letters, dd_name, dd_any, dd_unlike, dd_parted, dd_right, dd_law]
def fas : List He.Fa := [.glo "parts_of", .glo "with_parts", .glo "nodes_of", .glo "names_of", .glo "filled", .glo "replaced", .glo "fitted", .glo "_law_deck", .glo "_law_next", .glo "_law_same", .glo "_law_letters", .glo "_law_name", .glo "_law_any", .glo "_law_unlike", .glo "_law_parted", .glo "_law_right", .glo "law", .free "len", .free "abs", .free "range", .free "zip", .free "isinstance", .free "all", .free "tuple", .free "str", .free "int", .free "bool", .free "enumerate", .free "list", .free "dict", .free "any"]
def loose : List PySem.Str := ["parts_of", "with_parts", "nodes_of", "names_of", "filled", "replaced", "fitted", "_law_deck", "_law_next", "_law_same", "_law_letters", "_law_name", "_law_any", "_law_unlike", "_law_parted", "_law_right"]
abbrev R : PySem.W.OpenRow := PySem.W.OpenLaw.row PySem.Challenge.rw_needfill_k05_whole_fitted_and_filled
abbrev hk : PySem.W.Hook := He.hookD 4 fas fns
def ob (s : PySem.W.SharedT) : He.AlD := He.obsDG 4 fas fns (HandSHeadRun.getT s)
theorem ob_eq (s : PySem.W.SharedT) : ob s = hk.obs s.abs := He.obsDG_eq (HandSHeadRun.getT_eq s)
theorem run (w : World) : HandSHeadRun.RunEq R (PySem.W.view R.prog [18]) hk ob 3000 loose w := by
  intro os
  kernel_rfl
theorem facts {P : Program} {w : World} {K : PySem.W.Frag} {h : Heap} {mg : Str → Option Value} {f : Addr} (X : K.In h) (G : h.Ns mainGlobals mg) (hfa : mg ("law" : Str) = some (.ref f)) (c : He.SaysD fas fns K) :
    ∃ fd : FuncData, (∀ (s : Shared) (v : Value), BindsTo s fd ⟨[v], []⟩ [("_law_script", v)]) ∧ ∀ base : Heap, K.In base → base.Ns mainGlobals mg → FnOk P w K mg base CX0 20 f fd ["_law_script"] (spLaw K) := by
  obtain ⟨e_parts_of, F0_parts_of⟩ := c.def_ 0 (d := dd_parts_of) rfl
  have C_parts_of : Cal K mg "parts_of" s_parts_of P_parts_of _ e_parts_of := ⟨F0_parts_of, He.glo_ok X G (c.fact 0 (f := .glo "parts_of") rfl), FunD.bindsN (ps := P_parts_of) F0_parts_of fun _ _ _ _ _ _ us hl => match us, hl with | [_], _ => rfl⟩
  obtain ⟨e_with_parts, F0_with_parts⟩ := c.def_ 1 (d := dd_with_parts) rfl
  have C_with_parts : Cal K mg "with_parts" s_with_parts P_with_parts _ e_with_parts := ⟨F0_with_parts, He.glo_ok X G (c.fact 1 (f := .glo "with_parts") rfl), FunD.bindsN (ps := P_with_parts) F0_with_parts fun _ _ _ _ _ _ us hl => match us, hl with | [_, _], _ => rfl⟩
  obtain ⟨e_nodes_of, F0_nodes_of⟩ := c.def_ 2 (d := dd_nodes_of) rfl
  have C_nodes_of : Cal K mg "nodes_of" s_nodes_of P_nodes_of _ e_nodes_of := ⟨F0_nodes_of, He.glo_ok X G (c.fact 2 (f := .glo "nodes_of") rfl), FunD.bindsN (ps := P_nodes_of) F0_nodes_of fun _ _ _ _ _ _ us hl => match us, hl with | [_], _ => rfl⟩
  obtain ⟨e_names_of, F0_names_of⟩ := c.def_ 3 (d := dd_names_of) rfl
  have C_names_of : Cal K mg "names_of" s_names_of P_names_of _ e_names_of := ⟨F0_names_of, He.glo_ok X G (c.fact 3 (f := .glo "names_of") rfl), FunD.bindsN (ps := P_names_of) F0_names_of fun _ _ _ _ _ _ us hl => match us, hl with | [_], _ => rfl⟩
  obtain ⟨e_filled, F0_filled⟩ := c.def_ 4 (d := dd_filled) rfl
  have C_filled : Cal K mg "filled" s_filled P_filled _ e_filled := ⟨F0_filled, He.glo_ok X G (c.fact 4 (f := .glo "filled") rfl), FunD.bindsN (ps := P_filled) F0_filled fun _ _ _ _ _ _ us hl => match us, hl with | [_, _], _ => rfl⟩
  obtain ⟨e_replaced, F0_replaced⟩ := c.def_ 5 (d := dd_replaced) rfl
  have C_replaced : Cal K mg "replaced" s_replaced P_replaced _ e_replaced := ⟨F0_replaced, He.glo_ok X G (c.fact 5 (f := .glo "replaced") rfl), FunD.bindsN (ps := P_replaced) F0_replaced fun _ _ _ _ _ _ us hl => match us, hl with | [_, _], _ => rfl⟩
  obtain ⟨e_fitted, F0_fitted⟩ := c.def_ 6 (d := dd_fitted) rfl
  have C_fitted : Cal K mg "fitted" s_fitted P_fitted _ e_fitted := ⟨F0_fitted, He.glo_ok X G (c.fact 6 (f := .glo "fitted") rfl), FunD.bindsN (ps := P_fitted) F0_fitted fun _ _ _ _ _ _ us hl => match us, hl with | [_, _], _ => rfl⟩
  obtain ⟨e_deck, F0_deck⟩ := c.def_ 7 (d := dd_deck) rfl
  have C_deck : Cal K mg "_law_deck" s_deck P_deck _ e_deck := ⟨F0_deck, He.glo_ok X G (c.fact 7 (f := .glo "_law_deck") rfl), FunD.bindsN (ps := P_deck) F0_deck fun _ _ _ _ _ _ us hl => match us, hl with | [_], _ => rfl⟩
  obtain ⟨e_next, F0_next⟩ := c.def_ 8 (d := dd_next) rfl
  have C_next : Cal K mg "_law_next" s_next P_next _ e_next := ⟨F0_next, He.glo_ok X G (c.fact 8 (f := .glo "_law_next") rfl), FunD.bindsN (ps := P_next) F0_next fun _ _ _ _ _ _ us hl => match us, hl with | [_], _ => rfl⟩
  obtain ⟨e_same, F0_same⟩ := c.def_ 9 (d := dd_same) rfl
  have C_same : Cal K mg "_law_same" s_same P_same _ e_same := ⟨F0_same, He.glo_ok X G (c.fact 9 (f := .glo "_law_same") rfl), FunD.bindsN (ps := P_same) F0_same fun _ _ _ _ _ _ us hl => match us, hl with | [_, _], _ => rfl⟩
  obtain ⟨e_letters, F0_letters⟩ := c.def_ 10 (d := dd_letters) rfl
  have C_letters : Cal K mg "_law_letters" s_letters P_letters _ e_letters := ⟨F0_letters, He.glo_ok X G (c.fact 10 (f := .glo "_law_letters") rfl), FunD.bindsN (ps := P_letters) F0_letters fun _ _ _ _ _ _ us hl => match us, hl with | [_, _], _ => rfl⟩
  obtain ⟨e_name, F0_name⟩ := c.def_ 11 (d := dd_name) rfl
  have C_name : Cal K mg "_law_name" s_name P_name _ e_name := ⟨F0_name, He.glo_ok X G (c.fact 11 (f := .glo "_law_name") rfl), FunD.bindsN (ps := P_name) F0_name fun _ _ _ _ _ _ us hl => match us, hl with | [_], _ => rfl⟩
  obtain ⟨e_any, F0_any⟩ := c.def_ 12 (d := dd_any) rfl
  have C_any : Cal K mg "_law_any" s_any P_any _ e_any := ⟨F0_any, He.glo_ok X G (c.fact 12 (f := .glo "_law_any") rfl), FunD.bindsN (ps := P_any) F0_any fun _ _ _ _ _ _ us hl => match us, hl with | [_, _, _], _ => rfl⟩
  obtain ⟨e_unlike, F0_unlike⟩ := c.def_ 13 (d := dd_unlike) rfl
  have C_unlike : Cal K mg "_law_unlike" s_unlike P_unlike _ e_unlike := ⟨F0_unlike, He.glo_ok X G (c.fact 13 (f := .glo "_law_unlike") rfl), FunD.bindsN (ps := P_unlike) F0_unlike fun _ _ _ _ _ _ us hl => match us, hl with | [_, _], _ => rfl⟩
  obtain ⟨e_parted, F0_parted⟩ := c.def_ 14 (d := dd_parted) rfl
  have C_parted : Cal K mg "_law_parted" s_parted P_parted _ e_parted := ⟨F0_parted, He.glo_ok X G (c.fact 14 (f := .glo "_law_parted") rfl), FunD.bindsN (ps := P_parted) F0_parted fun _ _ _ _ _ _ us hl => match us, hl with | [_, _], _ => rfl⟩
  obtain ⟨e_right, F0_right⟩ := c.def_ 15 (d := dd_right) rfl
  have C_right : Cal K mg "_law_right" s_right P_right _ e_right := ⟨F0_right, He.glo_ok X G (c.fact 15 (f := .glo "_law_right") rfl), FunD.bindsN (ps := P_right) F0_right fun _ _ _ _ _ _ us hl => match us, hl with | [_, _], _ => rfl⟩
  obtain ⟨e_law, F0_law⟩ := c.def_ 16 (d := dd_law) rfl
  have C_law : Cal K mg "law" s_law P_law _ e_law := ⟨F0_law, He.glo_ok X G (c.fact 16 (f := .glo "law") rfl), FunD.bindsN (ps := P_law) F0_law fun _ _ _ _ _ _ us hl => match us, hl with | [_], _ => rfl⟩
  have T : Bt mg := ⟨He.free_ok X G (c.fact 17 (f := .free "len") rfl), He.free_ok X G (c.fact 18 (f := .free "abs") rfl), He.free_ok X G (c.fact 19 (f := .free "range") rfl), He.free_ok X G (c.fact 20 (f := .free "zip") rfl), He.free_ok X G (c.fact 21 (f := .free "isinstance") rfl), He.free_ok X G (c.fact 22 (f := .free "all") rfl), He.free_ok X G (c.fact 23 (f := .free "tuple") rfl), He.free_ok X G (c.fact 24 (f := .free "str") rfl), He.free_ok X G (c.fact 25 (f := .free "int") rfl), He.free_ok X G (c.fact 26 (f := .free "bool") rfl), He.free_ok X G (c.fact 27 (f := .free "enumerate") rfl), He.free_ok X G (c.fact 28 (f := .free "list") rfl), He.free_ok X G (c.fact 29 (f := .free "dict") rfl), He.free_ok X G (c.fact 30 (f := .free "any") rfl)⟩
  have e := hfa.symm.trans C_law.m
  cases e
  have b := FunD.bindsA (ps := ["_law_script"]) F0_law fun _ _ _ _ _ _ us hl => match us, hl with | [_], _ => rfl
  refine ⟨e_law, fun s v => b s [v] rfl, fun base _ _ => ?_⟩
  have G_next := ok_next (P := P) (w := w) (base := base) T C_next
  have G_letters := ok_letters T C_letters C_next G_next
  have G_name := ok_name T C_name C_next G_next C_letters G_letters
  have G_any := ok_any T C_any C_next G_next C_name G_name
  have G_parts_of := ok_parts (P := P) (w := w) (base := base) T C_parts_of
  have G_with := ok_with (P := P) (w := w) (base := base) T C_with_parts
  have G_repl := ok_repl T C_replaced C_parts_of G_parts_of C_with_parts G_with
  have G_filled := ok_filled T C_filled C_replaced (G_repl 4)
  have G_nodes_of := ok_nodes T C_nodes_of C_parts_of G_parts_of
  have G_names_of := ok_names T C_names_of C_nodes_of G_nodes_of
  have G_fitted := ok_fitted (P := P) (w := w) (base := base) T C_fitted
  have G_same := ok_same (P := P) (w := w) (base := base) T C_same 18
  have G_right := ok_right T C_right C_fitted G_fitted C_parted (ok_parted T C_parted C_nodes_of G_nodes_of) C_names_of G_names_of C_filled G_filled C_same G_same
  exact ok_law T C_law C_deck (ok_deck T C_deck) C_next G_next C_any (G_any 4) C_same G_same C_fitted G_fitted
    C_names_of G_names_of C_unlike (ok_unlike T C_unlike 4) C_filled G_filled C_right G_right
end Nf
open PySem PySem.W PySem.Calls PyProof.Rows
set_option maxRecDepth 100000 in
set_option maxHeartbeats 0 in
theorem PySem.Challenge.cw_needfill_k05_whole_fitted_and_filled_holds : PySem.Challenge.rw_needfill_k05_whole_fitted_and_filled.Holds := by
  w_on; o_law
  refine HandSHeadRun.head_any (r := OpenLaw.row PySem.Challenge.rw_needfill_k05_whole_fitted_and_filled) (q := view (OpenLaw.row PySem.Challenge.rw_needfill_k05_whole_fitted_and_filled).prog [18]) (H := Nf.hk) (ob := Nf.ob) (M := 3000) (loose := Nf.loose) (d := HandSHeadRun.topDef (OpenLaw.row PySem.Challenge.rw_needfill_k05_whole_fitted_and_filled).prog 18) (kwd := []) Nf.ob_eq
    (by kernel_rfl) (fun s => by kernel_rfl) Nf.run (by kernel_rfl) (by kernel_rfl) (by kernel_rfl) (by rfl) (by first | assumption | decide +kernel) (by decide +kernel) ⟨rfl, rfl, rfl, rfl, rfl, by decide +kernel⟩ ?hw ?hc
  case hw => w_witness2
  case hc =>
    refine L2.walk_ofE (l := PySem.Challenge.rw_needfill_k05_whole_fitted_and_filled) (n := 63) (k := 20) (x := "_law_script") (CX := L2.CX0) rfl (by decide) (by kernel_rfl) ⟨rfl, by decide, by decide⟩ ?F (fun _ _ _ _ z => z)
    intro w mg fa h Y G hmg0
    obtain ⟨K, KX, c⟩ := Y
    have hmg : mg ("law" : PySem.Str) = some (.ref fa) := by
      have e : (HandSHeadRun.topDef (OpenLaw.row PySem.Challenge.rw_needfill_k05_whole_fitted_and_filled).prog 18).name = ("law" : PySem.Str) := by kernel_rfl
      rw [← e]
      exact hmg0
    obtain ⟨fd, hb, hF⟩ := Nf.facts (P := (PySem.Challenge.rw_needfill_k05_whole_fitted_and_filled).prog) (w := w) KX G hmg c
    exact ⟨K, fd, Nf.spLaw K, KX, hb, fun H a ns hl _ hS => ⟨a, ns, rfl, hS, hl, fun _ => rfl⟩, hF⟩


