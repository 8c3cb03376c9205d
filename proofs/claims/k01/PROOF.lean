import PyProof.Rows.All
import Wide.All
import OpenK.AllK
import Wide.FinOn
import HandS.ForMost
import HandS.Wide
import HandS.IsInst
import HandS.Zip
import HandS.Walk
import HandS.Conv
import HandS.Star
import HandS.DictComp
import HandS.Style
import HandS.Flow
import HandS.TupAny
import HandS.ListItems
import HandS.Defaults
import KE.KStateDown
import Lean
import HandS.More
import HandS.WordsExc
import HandS.Head0
import HandS.Head1
import HandS.Head2
import HandS.HeadEnd
import HandS.HeadHook1
import HandS.HeadHook2
import KE.GoesEnum
import KE.KDictZip
import KE.KxIndex
import KE.KDictPairs
import HandS.Text
import KE.KRevSl
import PySem.Challenge.RW_needfill_k01_words_and_sayings
set_option Elab.async false
set_option linter.all false
set_option maxRecDepth 100000
namespace Nf
open PySem L2

/-! ### heaps: all that was tracked stays, but for some addresses -/
def Keep (D : List Addr) (H H' : Hp) : Prop := ∀ a o, H a = some o → a ∉ D → H' a = some o
theorem Keep.refl (D : List Addr) (H : Hp) : Keep D H H := fun _ _ h _ => h
theorem Keep.trans {D : List Addr} {H H1 H2 : Hp} (a : Keep D H H1) (b : Keep D H1 H2) : Keep D H H2 := fun c o h n => b c o (a c o h n) n
theorem Keep.of_same {D : List Addr} {H H' : Hp} (s : Same H H') : Keep D H H' := fun a o h _ => s a o h
theorem Keep.new {D : List Addr} {H H' : Hp} {p : Addr} {o : HO} (k : Keep D H H') (h : H' p = none) : Keep D H (upd H' p o) := fun a u e n => by
  rw [upd_ne (ne_of_none (k a u e n) h)]; exact k a u e n
theorem Keep.mut {D : List Addr} {H H' : Hp} {p : Addr} {o : HO} (k : Keep D H H') (h : p ∈ D) : Keep D H (upd H' p o) := fun a u e n => by
  have : a ≠ p := fun z => n (z ▸ h)
  rw [upd_ne this]; exact k a u e n
/-- an object that H does not know may change -/
theorem Keep.mutN {D : List Addr} {H H' : Hp} {p : Addr} {o : HO} (k : Keep D H H') (h : H p = none) : Keep D H (upd H' p o) := fun a u e n => by
  rw [upd_ne (ne_of_none e h)]; exact k a u e n
theorem Keep.weak {D E : List Addr} {H H' : Hp} (k : Keep D H H') (s : ∀ a, a ∈ D → a ∈ E) : Keep E H H' := fun a o h n => k a o h fun z => n (s a z)
theorem Keep.same {H H' : Hp} (k : Keep [] H H') : Same H H' := fun a o h => k a o h (by simp)
theorem Keep.free' {D : List Addr} {H H' : Hp} (e : Keep D H H') {l : Addr} (h : H' l = Option.none) (n : l ∉ D) : H l = Option.none := by
  cases q : H l with
  | none => rfl
  | some o =>
    rw [e l o q n] at h
    cases h
theorem same_new {H : Hp} {p : Addr} (h : H p = none) (o : HO) : Same H (upd H p o) := fun b u q => by rw [upd_ne (ne_of_none q h)]; exact q
theorem _root_.L2.Same.new {H H' : Hp} {p : Addr} {o : HO} (k : Same H H') (h : H' p = none) : Same H (upd H' p o) := k.trans (same_new h o)
theorem _root_.L2.Same.mutN {H H' : Hp} {p : Addr} {o : HO} (k : Same H H') (h : H p = none) : Same H (upd H' p o) := fun a u e => by
  rw [upd_ne (ne_of_none e h)]; exact k a u e
theorem _root_.L2.Same.keepN {H H' : Hp} (k : Same H H') : Keep [] H H' := Keep.of_same k

/-- all tuples stay -/
def TupS (H H' : Hp) : Prop := ∀ a xs, H a = some (.tup xs) → H' a = some (.tup xs)
theorem TupS.refl (H : Hp) : TupS H H := fun _ _ h => h
theorem TupS.trans {H H1 H2 : Hp} (a : TupS H H1) (b : TupS H1 H2) : TupS H H2 := fun c o h => b c o (a c o h)
theorem _root_.L2.Same.tups {H H' : Hp} (s : Same H H') : TupS H H' := fun a _ h => s a _ h
/-- no tuple stands at these places -/
def NoTup (D : List Addr) (H : Hp) : Prop := ∀ a ∈ D, ∀ xs, H a ≠ some (.tup xs)
theorem Keep.tups {D : List Addr} {H H' : Hp} (k : Keep D H H') (n : NoTup D H) : TupS H H' := fun a xs h => k a _ h fun m => n a m xs h
theorem TupS.new {H H' : Hp} {p : Addr} {o : HO} (k : TupS H H') (h : H' p = none) : TupS H (upd H' p o) := fun a u e => by
  rw [upd_ne (ne_of_none (k a u e) h)]; exact k a u e
theorem TupS.mutL {H H' : Hp} {p : Addr} {o : HO} {ys : List V} (k : TupS H H') (h : H' p = some (.lst ys)) : TupS H (upd H' p o) := fun a u e => by
  have q := k a u e
  have : a ≠ p := fun z => by rw [z, h] at q; cases q
  rw [upd_ne this]; exact q

/-! ### data of texts, numbers, truths, None and tuples -/
inductive Da where
  | non | bl (b : Bool) | int (i : Int) | str (x : Str) | tup (ds : List Da)
mutual
inductive Is (H : Hp) : V → Da → Prop
  | non : Is H .non .non
  | bl (b : Bool) : Is H (.bl b) (.bl b)
  | int (i : Int) : Is H (.int i) (.int i)
  | str (x : Str) : Is H (.str x) (.str x)
  | tup {a : Addr} {xs : List V} {ds : List Da} : H a = some (.tup xs) → IsA H xs ds → Is H (.ref a) (.tup ds)
inductive IsA (H : Hp) : List V → List Da → Prop
  | nil : IsA H [] []
  | cons {v : V} {vs : List V} {d : Da} {ds : List Da} : Is H v d → IsA H vs ds → IsA H (v :: vs) (d :: ds)
end
mutual
theorem Is.mono {H H' : Hp} (k : TupS H H') : ∀ {v : V} {d : Da}, Is H v d → Is H' v d
  | _, _, .non => .non
  | _, _, .bl b => .bl b
  | _, _, .int i => .int i
  | _, _, .str x => .str x
  | _, _, .tup h q => .tup (k _ _ h) (IsA.mono k q)
theorem IsA.mono {H H' : Hp} (k : TupS H H') : ∀ {v : List V} {d : List Da}, IsA H v d → IsA H' v d
  | _, _, .nil => .nil
  | _, _, .cons h q => .cons (Is.mono k h) (IsA.mono k q)
end
theorem IsA.len {H : Hp} : ∀ {vs : List V} {ds : List Da}, IsA H vs ds → vs.length = ds.length
  | _, _, .nil => rfl
  | _, _, .cons _ q => congrArg (· + 1) (IsA.len q)
theorem IsA.get {H : Hp} : ∀ {vs : List V} {ds : List Da} {i : Nat} {d : Da}, IsA H vs ds → ds[i]? = some d → ∃ v, vs[i]? = some v ∧ Is H v d
  | _, _, _, _, .nil, e => by simp at e
  | _, _, 0, _, .cons h _, e => by simp at e; subst e; exact ⟨_, rfl, h⟩
  | _, _, i + 1, d, .cons _ q, e => by
    obtain ⟨v, a, b⟩ := IsA.get (i := i) (d := d) q (by simpa using e)
    exact ⟨v, by simpa using a, b⟩
theorem IsA.getV {H : Hp} : ∀ {vs : List V} {ds : List Da} {i : Nat} {v : V}, IsA H vs ds → vs[i]? = some v → ∃ d, ds[i]? = some d ∧ Is H v d
  | _, _, _, _, .nil, e => by simp at e
  | _, _, 0, _, .cons h _, e => by simp at e; subst e; exact ⟨_, rfl, h⟩
  | _, _, i + 1, d, .cons _ q, e => by
    obtain ⟨v, a, b⟩ := IsA.getV (i := i) q (by simpa using e)
    exact ⟨v, by simpa using a, b⟩
theorem IsA.app {H : Hp} : ∀ {vs ws : List V} {ds es : List Da}, IsA H vs ds → IsA H ws es → IsA H (vs ++ ws) (ds ++ es)
  | _, _, _, _, .nil, s => s
  | _, _, _, _, .cons h q, s => .cons h (IsA.app q s)
theorem IsA.take {H : Hp} : ∀ {vs : List V} {ds : List Da} (n : Nat), IsA H vs ds → IsA H (vs.take n) (ds.take n)
  | _, _, 0, _ => .nil
  | _, _, _ + 1, .nil => .nil
  | _, _, n + 1, .cons h q => .cons h (IsA.take n q)
theorem IsA.drop {H : Hp} : ∀ {vs : List V} {ds : List Da} (n : Nat), IsA H vs ds → IsA H (vs.drop n) (ds.drop n)
  | _, _, 0, r => r
  | _, _, _ + 1, .nil => .nil
  | _, _, n + 1, .cons _ q => IsA.drop n q
/-- how deep, told by a bound -/
def Da.dep : Nat → Da → Prop
  | 0, _ => False
  | n + 1, .tup ds => ds.length ≤ 100000 ∧ ∀ d ∈ ds, Da.dep n d
  | _ + 1, _ => True
def Da.ty : Da → String
  | .non => "NoneType"
  | .bl _ => "bool"
  | .int _ => "int"
  | .str _ => "str"
  | .tup _ => "tuple"
theorem Is.ty {K : PySem.W.Frag} {H : Hp} {v : V} {d : Da} (h : Is H v d) : TyX K H v (.type d.ty) := by
  cases h with
  | non => exact .base .non
  | bl b => exact .base (.bl b)
  | int i => exact .base (.int i)
  | str x => exact .base (.str x)
  | tup h _ => exact .base (.tup h)
theorem walk_zipT {K : PySem.W.Frag} {a b : Addr} {xs ys : List V} {n : Nat} (hn : n = min xs.length ys.length) : Walk (RZ.ItzT K a b) n (fun H => SqT K H a xs ∧ SqT K H b ys) (YPair (fun i => xs[i]?) (fun i => ys[i]?)) := by
  subst hn
  refine ⟨fun i _ hi q => ?_, fun _ q => ⟨xs, ys, q.1, q.2, by omega⟩, fun i H v H' _ q y => ?_⟩
  · have h1 : i < xs.length := by omega
    have h2 : i < ys.length := by omega
    exact ⟨xs, ys, xs[i], ys[i], q.1, q.2, by simp [h1], by simp [h2]⟩
  · obtain ⟨T, x, z, h1, h2, h3, h4, h5⟩ := y
    exact ⟨T, x, z, h1, h2, h3, h4 xs q.1, h5 ys q.2⟩
theorem fn_never {P : Program} {w : World} {K : PySem.W.Frag} {mg : Str → Option Value} {base : Heap} {CX : CXT} {k : Nat} {f : Addr} {fd : FuncData} {ps : List Str} {sp : Sp} (no : ∀ vs H Q E, ¬ sp vs H Q E) : FnOk P w K mg base CX k f fd ps sp :=
  ⟨fun vs H Q E h => absurd h (no vs H Q E), fun _ _ _ H _ _ vs Q E _ _ _ _ h => absurd h (no vs H Q E)⟩
theorem yes_if {σ : L2.St} {H : Hp} {A B : Hp → Prop} (h : A H) : tYes σ H fun b H3 => if b = true then A H3 else B H3 := by
  show (if true = true then A H else B H)
  rw [if_pos rfl]
  exact h
theorem sz5 {n : Nat} (h : n ≤ 100000) : n ≤ sizeLine := Nat.le_trans h (by decide)
theorem sz5' {n : Nat} (h : n < 100000) : n < sizeLine := Nat.lt_of_lt_of_le h (by decide)
/-! alike -/
mutual
def Da.eq : Da → Da → Bool
  | .non, .non => true
  | .bl a, .bl b => a == b
  | .int i, .int j => decide (i = j)
  | .str x, .str y => decide (x = y)
  | .tup xs, .tup ys => Da.eqA xs ys
  | _, _ => false
def Da.eqA : List Da → List Da → Bool
  | [], [] => true
  | x :: xs, y :: ys => Da.eq x y && Da.eqA xs ys
  | _, _ => false
end
mutual
theorem Da.eq_refl : ∀ d : Da, Da.eq d d = true
  | .non => rfl
  | .bl b => by simp [Da.eq]
  | .int i => by simp [Da.eq]
  | .str x => by simp [Da.eq]
  | .tup ds => by simp only [Da.eq]; exact Da.eqA_refl ds
theorem Da.eqA_refl : ∀ d : List Da, Da.eqA d d = true
  | [] => rfl
  | d :: r => by simp only [Da.eqA, Da.eq_refl d, Da.eqA_refl r, Bool.and_self]
end
theorem Da.eqA_len : ∀ {xs ys : List Da}, xs.length ≠ ys.length → Da.eqA xs ys = false
  | [], [], h => absurd rfl h
  | [], _ :: _, _ => rfl
  | _ :: _, [], _ => rfl
  | x :: xs, y :: ys, h => by
    have := Da.eqA_len (xs := xs) (ys := ys) (fun e => h (by simp [e]))
    simp [Da.eqA, this]
theorem Da.eqA_zip : ∀ {xs ys : List Da}, xs.length = ys.length → Da.eqA xs ys = ((xs.zip ys).map fun p => Da.eq p.1 p.2).all id
  | [], [], _ => rfl
  | x :: xs, y :: ys, h => by
    have := Da.eqA_zip (xs := xs) (ys := ys) (by simpa using h)
    simp [Da.eqA, this]

/-! ### the deck -/
abbrev MM : Int := 2147483629
structure Deck (H : Hp) (d g c : Addr) (n : Nat) : Prop where
  ne1 : d ≠ g
  ne2 : d ≠ c
  ne3 : g ≠ c
  hd : ∃ k : Nat, H d = some (.lst [.ref g, .ref c, .int k]) ∧ k ≤ n
  hg : ∃ ds : List Int, H g = some (.lst (ds.map V.int)) ∧ ∀ x ∈ ds, 0 ≤ x ∧ x < MM
  hc : ∃ cs : List Int, H c = some (.lst (cs.map V.int)) ∧ 0 < cs.length ∧ cs.length ≤ 64 ∧ ∀ x ∈ cs, 0 ≤ x ∧ x < MM
theorem Deck.noTup {H : Hp} {d g c : Addr} {n : Nat} (D : Deck H d g c n) : NoTup [d, g, c] H := fun a m xs e => by
  obtain ⟨k, h1, _⟩ := D.hd
  obtain ⟨ds, h2, _⟩ := D.hg
  obtain ⟨cs, h3, _⟩ := D.hc
  simp only [List.mem_cons, List.not_mem_nil, or_false] at m
  rcases m with rfl | rfl | rfl
  · rw [h1] at e; cases e
  · rw [h2] at e; cases e
  · rw [h3] at e; cases e
theorem Deck.put {H : Hp} {d g c p : Addr} {n : Nat} {o : HO} (D : Deck H d g c n) (h : p ∉ [d, g, c]) : Deck (upd H p o) d g c n := by
  simp only [List.mem_cons, List.not_mem_nil, or_false, not_or] at h
  obtain ⟨a, b, e⟩ := h
  refine ⟨D.ne1, D.ne2, D.ne3, ?_, ?_, ?_⟩
  · rw [upd_ne (Ne.symm a)]; exact D.hd
  · rw [upd_ne (Ne.symm b)]; exact D.hg
  · rw [upd_ne (Ne.symm e)]; exact D.hc
theorem Deck.not_new {H : Hp} {d g c p : Addr} {n : Nat} (D : Deck H d g c n) (h : H p = none) : p ∉ [d, g, c] := by
  obtain ⟨k, h1, _⟩ := D.hd
  obtain ⟨ds, h2, _⟩ := D.hg
  obtain ⟨cs, h3, _⟩ := D.hc
  simp only [List.mem_cons, List.not_mem_nil, or_false, not_or]
  exact ⟨(ne_of_none h1 h).symm, (ne_of_none h2 h).symm, (ne_of_none h3 h).symm⟩
theorem Deck.new {H : Hp} {d g c p : Addr} {n : Nat} {o : HO} (D : Deck H d g c n) (h : H p = none) : Deck (upd H p o) d g c n := D.put (D.not_new h)
theorem Deck.le {H : Hp} {d g c : Addr} {n m : Nat} (D : Deck H d g c n) (h : n ≤ m) : Deck H d g c m := by
  obtain ⟨k, h1, h2⟩ := D.hd
  exact ⟨D.ne1, D.ne2, D.ne3, ⟨k, h1, by omega⟩, D.hg, D.hc⟩
theorem Deck.same {H H' : Hp} {d g c : Addr} {n : Nat} (D : Deck H d g c n) (s : Same H H') : Deck H' d g c n := by
  obtain ⟨k, h1, h2⟩ := D.hd
  obtain ⟨ds, h3, h4⟩ := D.hg
  obtain ⟨cs, h5, h6⟩ := D.hc
  exact ⟨D.ne1, D.ne2, D.ne3, ⟨k, s _ _ h1, h2⟩, ⟨ds, s _ _ h3, h4⟩, ⟨cs, s _ _ h5, h6⟩⟩
theorem mod_range {k m : Int} (h : 0 < m) : 0 ≤ k % m ∧ k % m < m := ⟨Int.emod_nonneg _ (by omega), Int.emod_lt_of_pos _ h⟩
theorem at_int {ns : List Int} {i : Int} (h0 : 0 ≤ i) (h1 : i < ns.length) : ∃ v, atI (ns.map V.int) i = some (.int v) ∧ v ∈ ns := by
  have hk : i.toNat < ns.length := by omega
  refine ⟨ns[i.toNat], at_of (j := i.toNat) (by omega) ?_, List.getElem_mem hk⟩
  rw [List.getElem?_map, List.getElem?_eq_getElem hk]; rfl
theorem at_nat {α : Type} {xs : List α} {f : α → V} {i : Int} (h0 : 0 ≤ i) (h1 : i < xs.length) : ∃ v, atI (xs.map f) i = some (f v) ∧ v ∈ xs ∧ xs[i.toNat]? = some v := by
  have hk : i.toNat < xs.length := by omega
  refine ⟨xs[i.toNat], at_of (j := i.toNat) (by omega) ?_, List.getElem_mem hk, List.getElem?_eq_getElem hk⟩
  rw [List.getElem?_map, List.getElem?_eq_getElem hk]; rfl
theorem atV {xs : List V} {i : Int} (h0 : 0 ≤ i) (h1 : i < xs.length) : ∃ v, atI xs i = some v ∧ xs[i.toNat]? = some v := by
  have hk : i.toNat < xs.length := by omega
  exact ⟨xs[i.toNat], at_of (j := i.toNat) (by omega) (List.getElem?_eq_getElem hk), List.getElem?_eq_getElem hk⟩
end Nf

set_option Elab.async false
set_option linter.all false
set_option maxRecDepth 100000
namespace Nf
open PySem L2
/-! ### sayings -/
inductive Say where
  | name (x : Str) | skip | app (c : Bool) (w : Str) (ps : List Say) | two (c : Bool) (a b : Say)
def hApp (c : Bool) : Str := if c then "call" else "made"
def hTwo (c : Bool) : Str := if c then "same" else "either"
mutual
def Say.da : Say → Da
  | .name x => .tup [.str "name", .str x]
  | .skip => .tup [.str "skip"]
  | .app c w ps => .tup [.str (hApp c), .str w, .tup (Say.das ps)]
  | .two c a b => .tup [.str (hTwo c), Say.da a, Say.da b]
def Say.das : List Say → List Da
  | [] => []
  | s :: r => Say.da s :: Say.das r
end
theorem Say.das_map : ∀ ps : List Say, Say.das ps = ps.map Say.da
  | [] => rfl
  | s :: r => by simp only [Say.das, List.map_cons, Say.das_map r]
def Say.head : Say → Str
  | .name _ => "name"
  | .skip => "skip"
  | .app c _ _ => hApp c
  | .two c _ _ => hTwo c
section
variable {H : Hp} {v : V}
theorem is_name {x : Str} (h : Is H v (Say.name x).da) : ∃ a, v = .ref a ∧ H a = some (.tup [.str "name", .str x]) := by
  simp only [Say.da] at h
  cases h with
  | @tup a xs _ h1 h2 =>
    cases h2 with
    | cons p q =>
      cases q with
      | cons p2 q2 =>
        cases q2; cases p; cases p2
        exact ⟨a, rfl, h1⟩
theorem is_skip (h : Is H v Say.skip.da) : ∃ a, v = .ref a ∧ H a = some (.tup [.str "skip"]) := by
  simp only [Say.da] at h
  cases h with
  | @tup a xs _ h1 h2 =>
    cases h2 with
    | cons p q =>
      cases q; cases p
      exact ⟨a, rfl, h1⟩
theorem is_app {c : Bool} {w : Str} {ps : List Say} (h : Is H v (Say.app c w ps).da) : ∃ a b xs, v = .ref a ∧ H a = some (.tup [.str (hApp c), .str w, .ref b]) ∧ H b = some (.tup xs) ∧ IsA H xs (ps.map Say.da) := by
  simp only [Say.da, Say.das_map] at h
  cases h with
  | @tup a xs _ h1 h2 =>
    cases h2 with
    | cons p q =>
      cases q with
      | cons p2 q2 =>
        cases q2 with
        | cons p3 q3 =>
          cases q3; cases p; cases p2
          cases p3 with
          | @tup b ys _ h3 h4 => exact ⟨a, b, ys, rfl, h1, h3, h4⟩
theorem is_two {c : Bool} {s t : Say} (h : Is H v (Say.two c s t).da) : ∃ a x y, v = .ref a ∧ H a = some (.tup [.str (hTwo c), x, y]) ∧ Is H x s.da ∧ Is H y t.da := by
  simp only [Say.da] at h
  cases h with
  | @tup a xs _ h1 h2 =>
    cases h2 with
    | cons p q =>
      cases q with
      | cons p2 q2 =>
        cases q2 with
        | cons p3 q3 =>
          cases q3; cases p
          exact ⟨a, _, _, rfl, h1, p2, p3⟩
theorem mk_name {a : Addr} {x : Str} (h : H a = some (.tup [.str "name", .str x])) : Is H (.ref a) (Say.name x).da := by
  simp only [Say.da]
  exact .tup h (.cons (.str _) (.cons (.str _) .nil))
theorem mk_skip {a : Addr} (h : H a = some (.tup [.str "skip"])) : Is H (.ref a) Say.skip.da := by
  simp only [Say.da]
  exact .tup h (.cons (.str _) .nil)
theorem mk_app {a b : Addr} {c : Bool} {w : Str} {xs : List V} {ps : List Say} (h : H a = some (.tup [.str (hApp c), .str w, .ref b])) (h2 : H b = some (.tup xs)) (h3 : IsA H xs (ps.map Say.da)) : Is H (.ref a) (Say.app c w ps).da := by
  simp only [Say.da, Say.das_map]
  exact .tup h (.cons (.str _) (.cons (.str _) (.cons (.tup h2 h3) .nil)))
theorem mk_two {a : Addr} {x y : V} {c : Bool} {s t : Say} (h : H a = some (.tup [.str (hTwo c), x, y])) (h2 : Is H x s.da) (h3 : Is H y t.da) : Is H (.ref a) (Say.two c s t).da := by
  simp only [Say.da]
  exact .tup h (.cons (.str _) (.cons h2 (.cons h3 .nil)))
/-- the head of a saying stands first -/
theorem is_head {s : Say} (h : Is H v s.da) : ∃ a r, v = .ref a ∧ H a = some (.tup (.str s.head :: r)) := by
  cases s with
  | name x => obtain ⟨a, rfl, h'⟩ := is_name h; exact ⟨a, _, rfl, h'⟩
  | skip => obtain ⟨a, rfl, h'⟩ := is_skip h; exact ⟨a, _, rfl, h'⟩
  | app c w ps => obtain ⟨a, b, xs, rfl, h, _⟩ := is_app h; exact ⟨a, _, rfl, h⟩
  | two c s t => obtain ⟨a, x, y, rfl, h, _⟩ := is_two h; exact ⟨a, _, rfl, h⟩
end
/-- within a depth, with heads among some, at most three parts -/
def Say.ok (f : Str → Prop) : Nat → Say → Prop
  | 0, _ => False
  | _ + 1, .name _ => f "name"
  | _ + 1, .skip => f "skip"
  | n + 1, .app c _ ps => f (hApp c) ∧ ps.length ≤ 3 ∧ ∀ p ∈ ps, Say.ok f n p
  | n + 1, .two c a b => f (hTwo c) ∧ Say.ok f n a ∧ Say.ok f n b
theorem Say.ok_mono {f : Str → Prop} : ∀ {n m : Nat} {s : Say}, n ≤ m → Say.ok f n s → Say.ok f m s
  | 0, _, _, _, h => h.elim
  | _ + 1, 0, _, h, _ => absurd h (by omega)
  | n + 1, m + 1, .name _, _, h => h
  | n + 1, m + 1, .skip, _, h => h
  | n + 1, m + 1, .app c w ps, hm, h => ⟨h.1, h.2.1, fun p hp => Say.ok_mono (by omega) (h.2.2 p hp)⟩
  | n + 1, m + 1, .two c a b, hm, h => ⟨h.1, Say.ok_mono (by omega) h.2.1, Say.ok_mono (by omega) h.2.2⟩
theorem Say.ok_imp {f g : Str → Prop} (k : ∀ x, f x → g x) : ∀ {n : Nat} {s : Say}, Say.ok f n s → Say.ok g n s
  | 0, _, h => h.elim
  | n + 1, .name _, h => k _ h
  | n + 1, .skip, h => k _ h
  | n + 1, .app c w ps, h => ⟨k _ h.1, h.2.1, fun p hp => Say.ok_imp k (h.2.2 p hp)⟩
  | n + 1, .two c a b, h => ⟨k _ h.1, Say.ok_imp k h.2.1, Say.ok_imp k h.2.2⟩
theorem Say.dep {f : Str → Prop} : ∀ {n : Nat} {s : Say}, Say.ok f n s → Da.dep (2 * n + 2) s.da
  | 0, _, h => h.elim
  | n + 1, .name _, _ => by
    simp only [Say.da]
    refine ⟨by simp, fun d hd => ?_⟩
    simp at hd
    rcases hd with rfl | rfl <;> exact True.intro
  | n + 1, .skip, _ => by
    simp only [Say.da]
    refine ⟨by simp, fun d hd => ?_⟩
    simp at hd
    subst hd
    exact True.intro
  | n + 1, .app c w ps, h => by
    simp only [Say.da, Say.das_map]
    refine ⟨by simp, fun d hd => ?_⟩
    simp at hd
    rcases hd with rfl | rfl | rfl
    · exact True.intro
    · exact True.intro
    · refine ⟨by rw [List.length_map]; have := h.2.1; omega, fun d hd => ?_⟩
      obtain ⟨p, hp, rfl⟩ := List.mem_map.mp hd
      have := Say.dep (h.2.2 p hp)
      exact this
  | n + 1, .two c a b, h => by
    simp only [Say.da]
    have k : ∀ {j : Nat} {d : Da}, Da.dep j d → Da.dep (j + 1) d := by
      intro j
      induction j with
      | zero => intro d h; exact h.elim
      | succ j ih =>
        intro d h
        cases d with
        | tup ds => exact ⟨h.1, fun d hd => ih (h.2 d hd)⟩
        | _ => exact True.intro
    refine ⟨by simp, fun d hd => ?_⟩
    simp at hd
    rcases hd with rfl | rfl | rfl
    · exact True.intro
    · exact k (Say.dep h.2.1)
    · exact k (Say.dep h.2.2)
theorem Da.dep_mono : ∀ {n m : Nat} {d : Da}, n ≤ m → Da.dep n d → Da.dep m d
  | 0, _, _, _, h => h.elim
  | _ + 1, 0, _, h, _ => absurd h (by omega)
  | n + 1, m + 1, .tup ds, hm, h => ⟨h.1, fun d hd => Da.dep_mono (by omega) (h.2 d hd)⟩
  | n + 1, m + 1, .non, _, _ => True.intro
  | n + 1, m + 1, .bl _, _, _ => True.intro
  | n + 1, m + 1, .int _, _, _ => True.intro
  | n + 1, m + 1, .str _, _, _ => True.intro
/-- the six heads -/
def heads6 : List Str := ["name", "made", "call", "either", "same", "skip"]
theorem str_len (x y : Str) : (x ++ y).length = x.length + y.length := by
  show (x.cps ++ y.cps).size = x.cps.size + y.cps.size
  rw [Array.size_append]
/-- what a draw may cost -/
def cost (m : Nat) : Nat := 20 * 4 ^ m
theorem cost_pos (m : Nat) : 20 ≤ cost m := by
  unfold cost
  have : 0 < 4 ^ m := Nat.pow_pos (by decide)
  omega
theorem cost_succ (m : Nat) : cost (m + 1) = 4 * cost m := by
  unfold cost
  rw [Nat.pow_succ]
  omega
theorem atC {xs : List Nat} {i : Int} (h0 : 0 ≤ i) (h1 : i < xs.length) : ∃ v, atI xs i = some v := by
  have hk : i.toNat < xs.length := by omega
  refine ⟨xs[i.toNat], ?_⟩
  unfold atI ixN
  rw [if_pos h0, if_pos h1]
  exact List.getElem?_eq_getElem hk
theorem ifT {c A B : Prop} [Decidable c] (hc : c) (h : A) : if decide c = true then A else B := by rw [decide_eq_true hc]; exact iteT h
theorem ifF {c A B : Prop} [Decidable c] (hc : ¬ c) (h : B) : if decide c = true then A else B := by rw [decide_eq_false hc]; exact iteF h
theorem ifBT {b : Bool} {A B : Prop} (hb : b = true) (h : A) : if b = true then A else B := by rw [if_pos hb]; exact h
theorem ifBF {b : Bool} {A B : Prop} (hb : b = false) (h : B) : if b = true then A else B := by rw [hb]; exact iteF h
theorem g_name {i : Nat} {v : V} {σ : L2.St} {H : Hp} {Q : L2.St → Hp → Prop} (h : Q (σ.set i (some v)) H) : gName i v σ H Q := h
theorem seq_cut {t1 t2 : TS} {D : Ends} {σ : L2.St} {H : Hp} (M : L2.St → Hp → Prop) (h2 : ∀ σ' H', M σ' H' → t2 D σ' H') (h1 : (∀ σ' H', M σ' H' → t2 D σ' H') → t1 { D with nx := t2 D } σ H) : tSeq t1 t2 D σ H := h1 h2
theorem flat_strs : ∀ ws : List Str, (ws.map V.str).all flatV = true
  | [] => rfl
  | x :: r => by rw [List.map_cons, List.all_cons, flat_strs r]; rfl
theorem inV_strs {x : Str} : ∀ {ws : List Str}, inV (.str x) (ws.map V.str) = true ↔ x ∈ ws
  | [] => by simp [inV]
  | y :: r => by
    have h := inV_strs (x := x) (ws := r)
    unfold inV at h ⊢
    rw [List.map_cons, List.any_cons, Bool.or_eq_true, h, List.mem_cons]
    show (y == x) = true ∨ _ ↔ _
    rw [beq_iff_eq]
    exact ⟨fun z => z.imp Eq.symm id, fun z => z.imp Eq.symm id⟩
theorem heads6_cases {x : Str} (h : x ∈ heads6) : x = "skip" ∨ x = "name" ∨ (∃ c, x = hTwo c) ∨ ∃ c, x = hApp c := by
  unfold heads6 at h
  simp only [List.mem_cons, List.not_mem_nil, or_false] at h
  rcases h with h | h | h | h | h | h
  · exact .inr (.inl h)
  · exact .inr (.inr (.inr ⟨false, h⟩))
  · exact .inr (.inr (.inr ⟨true, h⟩))
  · exact .inr (.inr (.inl ⟨false, h⟩))
  · exact .inr (.inr (.inl ⟨true, h⟩))
  · exact .inl h
theorem Keep.at {D : List Addr} {H H' : Hp} {a : Addr} {o : HO} (k : Keep D H H') (h : H a = some o) (n : a ∉ D) : H' a = some o := k a o h n
theorem Keep.is {D : List Addr} {H H' : Hp} {v : V} {d : Da} (k : Keep D H H') (n : NoTup D H) (h : Is H v d) : Is H' v d := h.mono (k.tups n)
theorem IsA.map_get {α : Type} {H : Hp} {f : α → Da} {vs : List V} {xs : List α} {i : Nat} {v : V} (h : IsA H vs (xs.map f)) (e : vs[i]? = some v) : ∃ x, xs[i]? = some x ∧ Is H v (f x) := by
  obtain ⟨d, h1, h2⟩ := h.getV e
  rw [List.getElem?_map] at h1
  obtain ⟨x, hx, rfl⟩ := Option.map_eq_some_iff.mp h1
  exact ⟨x, hx, h2⟩
end Nf

set_option Elab.async false
set_option linter.all false
set_option maxRecDepth 100000
namespace Nf
open PySem L2
theorem cut_whole {xs : List V} {lo hi : Option Int} (h : HT.sIx xs.length 0 lo = 0 ∧ HT.sIx xs.length xs.length hi = xs.length) : cutV xs lo hi = xs := by
  show (xs.drop (HT.sIx xs.length 0 lo)).take (HT.sIx xs.length xs.length hi - HT.sIx xs.length 0 lo) = xs
  rw [h.1, h.2, List.drop_zero, Nat.sub_zero, List.take_length]
theorem sl_any {K : PySem.W.Frag} {H : Hp} {a : Addr} {xs : List V} {lo hi : Option Int} {Q : VK} (h : H a = some (.tup xs)) (q : ∀ p H', Same H H' → H' p = some (.tup (cutV xs lo hi)) → Q (.ref p) H') : rSlA K (.ref a) lo hi H Q := by
  refine ⟨a, xs, rfl, SqT.of h, fun hw => q a H (Same.refl H) (by rw [cut_whole hw]; exact h), fun _ p hp => q p _ (same_new hp _) upd_same⟩
theorem cat_any {K : PySem.W.Frag} {H : Hp} {a b : Addr} {xs ys : List V} {Q : VK} (h : H a = some (.tup xs)) (h2 : H b = some (.tup ys)) (hz : xs.length + ys.length ≤ 100000) (q : ∀ p H', Same H H' → H' p = some (.tup (xs ++ ys)) → Q (.ref p) H') : rCatA K (.ref a) (.ref b) H Q := by
  refine ⟨a, b, xs, ys, rfl, rfl, SqT.of h, SqT.of h2, sz5 hz, fun e => ?_, fun _ e => ?_, fun _ _ p hp => q p _ (same_new hp _) upd_same⟩
  · subst e; exact q b H (Same.refl H) (by simpa using h2)
  · subst e; exact q a H (Same.refl H) (by simpa using h)
theorem cut_from1 {x : V} {xs : List V} : cutV (x :: xs) (some 1) none = xs := by
  show ((x :: xs).drop (HT.sIx (x :: xs).length 0 (some ((1 : Nat) : Int)))).take ((x :: xs).length - HT.sIx (x :: xs).length 0 (some ((1 : Nat) : Int))) = xs
  rw [HT.sIx_nat]
  have e : min 1 (x :: xs).length = 1 := by rw [List.length_cons]; omega
  rw [e, List.drop_succ_cons, List.drop_zero, List.length_cons, Nat.add_sub_cancel, List.take_length]
theorem cut_to1 {x : V} {xs : List V} : cutV (x :: xs) none (some 1) = [x] := by
  show ((x :: xs).drop 0).take (HT.sIx (x :: xs).length (x :: xs).length (some ((1 : Nat) : Int)) - 0) = [x]
  rw [HT.sIx_nat]
  have e : min 1 (x :: xs).length = 1 := by rw [List.length_cons]; omega
  rw [e]
  rfl
def Say.isApp : Say → Bool
  | .app _ _ _ => true
  | _ => false
def Say.isTwo : Say → Bool
  | .two _ _ _ => true
  | _ => false
theorem in_mc (s : Say) : inV (.str s.head) [.str "made", .str "call"] = s.isApp := by
  cases s with
  | app c _ _ => show inV (.str (hApp c)) _ = true; revert c; decide
  | two c _ _ => show inV (.str (hTwo c)) _ = false; revert c; decide
  | name x => show inV (.str "name") _ = false; decide
  | skip => show inV (.str "skip") _ = false; decide
theorem in_es (s : Say) : inV (.str s.head) [.str "either", .str "same"] = s.isTwo := by
  cases s with
  | app c _ _ => show inV (.str (hApp c)) _ = false; revert c; decide
  | two c _ _ => show inV (.str (hTwo c)) _ = true; revert c; decide
  | name x => show inV (.str "name") _ = false; decide
  | skip => show inV (.str "skip") _ = false; decide
theorem head_app {c : Bool} {w : Str} {ps : List Say} : (Say.app c w ps).head ≠ "name" := by
  show hApp c ≠ "name"; revert c; decide
theorem head_two {c : Bool} {a b : Say} : (Say.two c a b).head ≠ "name" := by
  show hTwo c ≠ "name"; revert c; decide
theorem head_skip : Say.skip.head ≠ "name" := by
  show ¬ (("skip" : Str) = "name"); decide
theorem at0 {x : V} {r : List V} : atI (x :: r) 0 = some x := at_of (j := 0) rfl rfl
/-- a list made of a tuple's (or list's) items, one by one, each by a call that leaves all as it was -/
theorem lc_map {α : Type} {J : It} {G : Hp → Prop} {xs : List V} (W : Walk J xs.length G (YAt xs)) {f g : α → Da} {ps : List α} {H1 : Hp} {Z : Addr} {i0 : Nat} {te : TE} {vs : List Nat} {σ : L2.St} {Qd : Hp → Prop}
    (hxs : IsA H1 xs (ps.map f)) (hG : ∀ H, Same H1 H → G H) (hlen : ps.length ≤ 90000) (hZ : H1 Z = none)
    (hw : ∀ x : V, wipe ((wipe σ vs).set i0 (some x)) vs = wipe σ vs)
    (turn : ∀ (i : Nat) (x : V) (p : α) (H2 : Hp) (Q : VK), ps[i]? = some p → Same H1 H2 → Is H2 x (f p) → (∀ y H4, Same H2 H4 → Is H4 y (g p) → Q y H4) → te ((wipe σ vs).set i0 (some x)) H2 Q)
    (done : ∀ (H2 : Hp) (us : List V), Same H1 H2 → H2 Z = some (.lst us) → IsA H2 us (ps.map g) → Qd H2) :
    ∃ W : Nat → Nat → Hp → Prop, (∃ m, W 0 m (upd H1 Z (.lst []))) ∧ ∀ i m H, W i m H →
      (J.stop i H ∧ Qd H) ∨ (J.go i H ∧ ∃ Nx : Hp → Prop, (∀ H', Nx H' → ∃ m', m' < m ∧ W (i + 1) m' H') ∧ ∀ x H', J.yld i H x H' → gName i0 x (wipe σ vs) H' fun σ2 H2 => wipe σ2 vs = wipe σ vs ∧ tYes σ2 H2 fun b H3 =>
        if b = true then te σ2 H3 fun y H4 => ∃ acc, H4 Z = some (.lst acc) ∧ acc.length < sizeLine ∧ Nx (upd H4 Z (.lst (acc ++ [y]))) else Nx H3) := by
  have hxl : xs.length = ps.length := by rw [hxs.len, List.length_map]
  refine lc_it W (fun i H' => ∃ us : List V, Same H1 H' ∧ H' Z = some (.lst us) ∧ IsA H' us ((ps.take i).map g)) ?_ ?_ ?_ ?_
  · exact ⟨[], same_new hZ _, upd_same, .nil⟩
  · rintro i H2 _ ⟨us, h, _⟩
    exact hG H2 h
  · rintro i x H2 H3 hi ⟨us, S2, hZ2, IA⟩ ⟨rfl, hx⟩
    obtain ⟨p, hp, hxp⟩ := hxs.map_get hx
    refine ⟨hw x, yes_if ?_⟩
    refine turn i x p _ _ hp S2 (hxp.mono S2.tups) fun y H4 S4 I4 => ?_
    have lus : us.length = i := by rw [IA.len, List.length_map, List.length_take]; omega
    refine ⟨us, S4 _ _ hZ2, sz5' (by omega), us ++ [y], (S2.trans S4).mutN hZ, upd_same, ?_⟩
    have N : TupS H4 (upd H4 Z (.lst (us ++ [y]))) := (TupS.refl H4).mutL (S4 _ _ hZ2)
    rw [List.take_add_one, hp, List.map_append]
    exact ((IA.mono S4.tups).mono N).app (.cons (I4.mono N) .nil)
  · rintro H2 ⟨us, S2, hZ2, IA⟩
    rw [hxl, List.take_length] at IA
    exact done H2 us S2 hZ2 IA
/-! ### filled -/
abbrev Fl := List (Str × Say)
mutual
def Say.fill (fs : Fl) : Say → Say
  | .name x => (fs.lookup x).getD (.name x)
  | .skip => .skip
  | .app c w ps => .app c w (Say.fillA fs ps)
  | .two c a b => .two c (Say.fill fs a) (Say.fill fs b)
def Say.fillA (fs : Fl) : List Say → List Say
  | [] => []
  | s :: r => Say.fill fs s :: Say.fillA fs r
end
theorem Say.fillA_map {fs : Fl} : ∀ ps : List Say, Say.fillA fs ps = ps.map (Say.fill fs)
  | [] => rfl
  | s :: r => by simp only [Say.fillA, List.map_cons, Say.fillA_map r]
theorem Say.fill_app {fs : Fl} {c : Bool} {w : Str} {ps : List Say} : (Say.app c w ps).fill fs = .app c w (ps.map (Say.fill fs)) := by simp only [Say.fill, Say.fillA_map]
theorem Say.fill_two {fs : Fl} {c : Bool} {a b : Say} : (Say.two c a b).fill fs = .two c (a.fill fs) (b.fill fs) := by simp only [Say.fill]
theorem Say.fill_skip {fs : Fl} : Say.skip.fill fs = .skip := by simp only [Say.fill]
theorem Say.fill_name {fs : Fl} {x : Str} : (Say.name x).fill fs = (fs.lookup x).getD (.name x) := by simp only [Say.fill]
def pairDa (p : Str × Say) : Da := .tup [.str p.1, p.2.da]
def flDa (fs : Fl) : Da := .tup (fs.map pairDa)
def Say.parts : Say → List Say
  | .app _ _ ps => ps
  | .two _ a b => [a, b]
  | _ => []
def Say.withP : Say → List Say → Say
  | .app c w _, ps => .app c w ps
  | .two c _ _, [a, b] => .two c a b
  | s, _ => s
theorem Say.fill_parts {fs : Fl} {s : Say} (h : s.head ≠ "name") : s.fill fs = s.withP (s.parts.map (Say.fill fs)) := by
  cases s with
  | name x => exact absurd rfl h
  | skip => simp only [Say.fill, Say.withP]
  | app c w ps => rw [Say.fill_app]; rfl
  | two c a b => rw [Say.fill_two]; rfl
theorem Say.ok_parts {f : Str → Prop} {n : Nat} {s : Say} (h : Say.ok f (n + 1) s) : ∀ p ∈ s.parts, Say.ok f n p := by
  cases s with
  | name x => intro p hp; cases hp
  | skip => intro p hp; cases hp
  | app c w ps => exact h.2.2
  | two c a b =>
    intro p hp
    simp only [Say.parts, List.mem_cons, List.not_mem_nil, or_false] at hp
    rcases hp with rfl | rfl
    · exact h.2.1
    · exact h.2.2
theorem Say.parts_le {f : Str → Prop} {n : Nat} {s : Say} (h : Say.ok f (n + 1) s) : s.parts.length ≤ 3 := by
  cases s with
  | name x => exact Nat.zero_le _
  | skip => exact Nat.zero_le _
  | app c w ps => exact h.2.1
  | two c a b => show 2 ≤ 3; decide
theorem is_pair {H : Hp} {v : V} {p : Str × Say} (h : Is H v (pairDa p)) : ∃ a y, v = .ref a ∧ H a = some (.tup [.str p.1, y]) ∧ Is H y p.2.da := by
  cases h with
  | @tup a xs _ h1 h2 =>
    cases h2 with
    | cons p1 q1 =>
      cases q1 with
      | cons p2 q2 =>
        cases q2; cases p1
        exact ⟨a, _, rfl, h1, p2⟩
theorem is_fl {H : Hp} {v : V} {fs : Fl} (h : Is H v (flDa fs)) : ∃ a xs, v = .ref a ∧ H a = some (.tup xs) ∧ IsA H xs (fs.map pairDa) := by
  cases h with
  | @tup a xs _ h1 h2 => exact ⟨a, xs, rfl, h1, h2⟩
/-- a dict of the fills -/
def DR (H : Hp) (kvs : List (Key × V)) (fs : Fl) : Prop := ∀ x : Str, (∀ s, fs.lookup x = some s → ∃ u, valV kvs (Sum.inr x) = some u ∧ Is H u s.da) ∧ (fs.lookup x = none → valV kvs (Sum.inr x) = none)
theorem DR.mono {H H' : Hp} {kvs : List (Key × V)} {fs : Fl} (d : DR H kvs fs) (k : TupS H H') : DR H' kvs fs := fun x =>
  ⟨fun s hs => let ⟨u, h1, h2⟩ := (d x).1 s hs; ⟨u, h1, h2.mono k⟩, (d x).2⟩
theorem DR.snoc {H : Hp} {kvs : List (Key × V)} {fs : Fl} {x : Str} {s : Say} {u : V} (d : DR H kvs fs) (hn : fs.lookup x = none) (h : Is H u s.da) : DR H (putK kvs (Sum.inr x) u) (fs ++ [(x, s)]) := fun y => by
  rw [List.lookup_append, valV_put]
  by_cases e : y = x
  · subst e
    rw [hn, if_pos rfl]
    have e1 : List.lookup y [(y, s)] = some s := by simp [List.lookup]
    rw [e1]
    exact ⟨fun s' hs' => by
      have : s = s' := by simpa using hs'
      subst this
      exact ⟨u, rfl, h⟩, fun z => by simp at z⟩
  · have e0 : (y == x) = false := beq_eq_false_iff_ne.mpr e
    have e1 : List.lookup y [(x, s)] = none := by simp only [List.lookup, e0]
    have e2 : ¬ (Sum.inr y : Key) = Sum.inr x := fun z => e (Sum.inr.inj z)
    rw [e1, if_neg e2, Option.or_none]
    exact d y
theorem put_len {kvs : List (Key × V)} {k : Key} {v : V} : (putK kvs k v).length ≤ kvs.length + 1 := by
  unfold putK
  split
  · rw [List.length_map]; omega
  · rw [List.length_append]; exact Nat.le_refl _
theorem lookup_none_of {fs : Fl} {x : Str} (h : x ∉ fs.map Prod.fst) : fs.lookup x = none := by
  induction fs with
  | nil => rfl
  | cons p r ih =>
    simp only [List.map_cons, List.mem_cons, not_or] at h
    obtain ⟨y, s⟩ := p
    have e : (x == y) = false := beq_eq_false_iff_ne.mpr h.1
    simp only [List.lookup, e]
    exact ih h.2
theorem nodup_take {fs : Fl} (h : (fs.map Prod.fst).Nodup) {i : Nat} {p : Str × Say} (hp : fs[i]? = some p) : p.1 ∉ (fs.take i).map Prod.fst := by
  intro hm
  have hi : i < fs.length := (List.getElem?_eq_some_iff.mp hp).1
  have hpi : fs[i] = p := (List.getElem?_eq_some_iff.mp hp).2
  rw [List.mem_map] at hm
  obtain ⟨q, hq, hqe⟩ := hm
  rw [List.mem_take_iff_getElem] at hq
  obtain ⟨j, hj, hjq⟩ := hq
  have hji : j < i := by omega
  have hjl : j < fs.length := by omega
  have e1 : (fs.map Prod.fst)[j]? = some p.1 := by
    rw [List.getElem?_map, List.getElem?_eq_getElem hjl]
    show some (fs[j].1) = some p.1
    rw [hjq, hqe]
  have e2 : (fs.map Prod.fst)[i]? = some p.1 := by rw [List.getElem?_map, hp]; rfl
  exact absurd (nd_ix h e1 e2) (by omega)
theorem Say.fill_ok {fs : Fl} {k : Nat} (hk : ∀ p ∈ fs, Say.ok (fun _ => True) k p.2) : ∀ {n : Nat} {s : Say}, Say.ok (fun _ => True) n s → Say.ok (fun _ => True) (n + k) (s.fill fs)
  | 0, _, h => h.elim
  | n + 1, .name x, _ => by
    rw [Say.fill_name]
    cases hl : fs.lookup x with
    | none =>
      show Say.ok _ (n + 1 + k) (.name x)
      rw [show n + 1 + k = (n + k) + 1 by omega]
      exact True.intro
    | some s =>
      obtain ⟨l1, l2, e, _⟩ := List.lookup_eq_some_iff.mp hl
      exact Say.ok_mono (by omega) (hk (x, s) (by rw [e]; simp))
  | n + 1, .skip, _ => by
    rw [Say.fill_skip, show n + 1 + k = (n + k) + 1 by omega]
    exact True.intro
  | n + 1, .app c w ps, h => by
    rw [Say.fill_app, show n + 1 + k = (n + k) + 1 by omega]
    refine ⟨True.intro, by rw [List.length_map]; exact h.2.1, fun p hp => ?_⟩
    obtain ⟨q, hq, rfl⟩ := List.mem_map.mp hp
    exact Say.fill_ok hk (h.2.2 q hq)
  | n + 1, .two c a b, h => by
    rw [Say.fill_two, show n + 1 + k = (n + k) + 1 by omega]
    exact ⟨True.intro, Say.fill_ok hk h.2.1, Say.fill_ok hk h.2.2⟩
mutual
theorem Say.fill_nil : ∀ s : Say, s.fill [] = s
  | .name x => by rw [Say.fill_name]; rfl
  | .skip => Say.fill_skip
  | .app c w ps => by simp only [Say.fill, Say.fillA_nil ps]
  | .two c a b => by simp only [Say.fill, Say.fill_nil a, Say.fill_nil b]
theorem Say.fillA_nil : ∀ ps : List Say, Say.fillA [] ps = ps
  | [] => rfl
  | s :: r => by simp only [Say.fillA, Say.fill_nil s, Say.fillA_nil r]
end
end Nf

set_option Elab.async false
set_option linter.all false
set_option maxRecDepth 100000
namespace Nf
open PySem PySem.Spec PyProof.Rows L2
/-! ### enumerate of a tuple -/
abbrev enumObj (n : Addr) : Obj := { cls := .type "enumerate", data := .fields #[.none, .bool false, .ref n, rawInt 0, .none, .none] }
abbrev titObj (t : Addr) : Obj := { cls := .type "tuple_iterator", data := .fields #[.ref t, .int 0 0] }
set_option maxHeartbeats 1000000 in
theorem meets_enumT (t : Addr) (its : Array Value) : Meets (Builtin.«enumerate.__new__» ⟨[.type "enumerate", .ref t], []⟩)
    (fun _ R s => s.heap.IsTuple t its ∧ R (.ok (.ret (.ref (s.heap.push (titObj t)).objs.size))) { s with heap := (s.heap.push (titObj t)).push (enumObj s.heap.objs.size) }) :=
  .of_wp fun prog w A R s h => by
    obtain ⟨hp, gg, dr, tk, os⟩ := s
    obtain ⟨ht, h⟩ := h
    have hsub := sub_enumerate
    have it1 : ∀ {A2 : Around} {E2 : Value → Shared → Prop} {Q2 : Value → Shared → Prop}, Q2 (.ref hp.objs.size) ⟨hp.push (titObj t), gg, dr, tk, os⟩ → wpAny (model prog w) A2 (pyIter (.ref t)) Q2 E2 ⟨hp, gg, dr, tk, os⟩ :=
      fun q => (begins_tuple t its).iter prog w _ _ ⟨hp, gg, dr, tk, os⟩ _ ht q
    wp_walk using it1
    refine wpAny_stack_any fun st => wpAny_pure ?_
    split
    · rename_i cc _ _ _ _ _
      cases (cc == Value.type "enumerate") <;> (wp_walk using it1; exact ⟨_, rfl, h⟩)
    · wp_walk using it1
      exact ⟨_, rfl, h⟩
theorem call_enumT {prog : Program} {w : World} {A : Around} {E : Value → Shared → Prop} {s : Shared} {t : Addr} {its : Array Value} {Q : Value → Shared → Prop} (ht : s.heap.IsTuple t its)
    (h : ∀ h', IsEnum h' (s.heap.objs.size + 1) s.heap.objs.size 0 .none → h'.IsTupleIter s.heap.objs.size t 0 → h'.objs.size = s.heap.objs.size + 2 →
      (∀ b o, s.heap.get? b = some o → h'.get? b = some o) → Q (.ref (s.heap.objs.size + 1)) { s with heap := h' }) :
    wpAny (model prog w) A (call (.type "enumerate") [.ref t]) Q E s := by
  have hz : (s.heap.push (titObj t)).objs.size = s.heap.objs.size + 1 := Heap.size_push ..
  refine callType_new F.called_enumerate (by decide) (F.typeCall_enumerate_1 _) (F.newCall_enumerate_1 _)
    (fun obj => F.args_object_init_2 obj _) F.entry_enumerate_new (meets_enumT t its) ⟨ht, ?_⟩
  have he : IsEnum ((s.heap.push (titObj t)).push (enumObj s.heap.objs.size)) (s.heap.objs.size + 1) s.heap.objs.size 0 .none := by
    have q := Heap.get?_push_size (s.heap.push (titObj t)) (o := enumObj s.heap.objs.size) rfl
    rw [hz] at q
    exact q
  show _ ∧ _
  rw [hz]
  exact ⟨⟨_, he, rfl⟩, h _ he ⟨_, Heap.get?_push_of_some _ (Heap.get?_push_size _ rfl), rfl, rfl⟩ (by rw [Heap.size_push, hz])
    fun b o x => Heap.get?_push_of_some _ (Heap.get?_push_of_some _ x)⟩
theorem next_enumT_end {prog : Program} {w : World} {A : Around} {E : Value → Shared → Prop} {s : Shared} {e it l : Addr} {i : Nat} {n : Int} {its : Array Value} {old : Value} {Q : Option Value → Shared → Prop}
    (hh : A.handled = none) (he : IsEnum s.heap e it n old) (hit : s.heap.IsTupleIter it l i) (hl : s.heap.IsTuple l its) (hx : its[i]? = none)
    (hQ : ∀ h', Heap.ExtBut it s.heap h' → Q none { s with heap := h' }) : wpAny (model prog w) A (pyNext (.ref e)) Q E s := by
  have ty : s.TypeIs (.ref e) "enumerate" := ⟨_, he, rfl⟩
  unfold pyNext
  refine wpAny_bind (wpAny_attempt ?_)
  refine wpAny_callSpecial?_slot (name := Str.ofString "__next__") ty F.slot_enumerate_next ?_
  refine wpAny_call_entry F.slot_enumerate_next ty F.entry_enumerate_next ?_ (F.args_enumerate_next_1 _)
  show wpAny _ _ (field (.ref e) 2 >>= _) _ _ s
  refine wpAny_bind (wpAny_field he rfl (x := .ref it) rfl ?_)
  refine wpAny_bind (wpAny_nextOf_tuple_end hh hit hl hx fun h' z hk hz => ?_)
  obtain ⟨oz, hoz, hcz⟩ := hz
  exact wpAny_bind (wpAny_isInstance (T := "StopIteration") (b := true) ⟨oz, hoz, hcz⟩ isSubtype_stop (wpAny_pure (hQ _ hk)))
/-- the tuple at a, each item in a new pair -/
def IteT (K : PySem.W.Frag) (a : Addr) : It where
  go := fun i H => ∃ (xs : List V) (x : V), SqT K H a xs ∧ xs[i]? = some x
  yld := fun i H v H' => ∃ T x, v = .ref T ∧ H T = none ∧ H' = upd H T (.tup [.int (i : Nat), x]) ∧ ∀ xs, SqT K H a xs → xs[i]? = some x
  stop := fun i H => ∃ xs : List V, SqT K H a xs ∧ xs.length ≤ i
theorem turn_enumT {P : Program} {w : World} {K : PySem.W.Frag} {elts : List Expr} {kk : Nat} {tpos : Pos} (a e it : Addr) (hae : a ≠ it) (hae2 : a ≠ e) :
    Turn P w K (.Tuple elts kk tpos) (IteT K a) [e, it] e (fun i h => (∃ old, IsEnum h e it ((i : Nat) : Int) old) ∧ h.IsTupleIter it a i ∧ e ≠ it) where
  mem := by simp
  obj := fun i h st b hb => by
    obtain ⟨⟨old, he⟩, ⟨o, ho, hc, hd⟩, _⟩ := st
    rcases (show b = e ∨ b = it by simpa using hb) with z | z
    · exact z ▸ ⟨_, he, fun v q => nomatch q⟩
    · exact z ▸ ⟨o, ho, fun v q => by rw [hd] at q; cases q⟩
  keep := fun i h h' st k => ⟨st.1.imp fun old he => k e (by simp) _ he, st.2.1.at fun o q => k it (by simp) o q, st.2.2⟩
  item := by
    intro X hP hw hK hc i pins s σ H E I hf st hg
    subst hP hw hK
    obtain ⟨⟨old, he⟩, hit, hne⟩ := st
    obtain ⟨xs, x, hq, hx⟩ := hg
    obtain ⟨its, rv, p, hz⟩ := I.tuple hq
    obtain ⟨u, hu, ru⟩ := rv.get hx
    have hel : e < s.heap.objs.size := Heap.lt_size he
    have hil : it < s.heap.objs.size := by obtain ⟨_, q, _⟩ := hit; exact Heap.lt_size q
    have hlt : i < its.toArray.size := by
      have := (List.getElem?_eq_some_iff.mp hu).1
      simpa using this
    have hef : e ∉ [it, a] := by
      intro m
      rcases (show e = it ∨ e = a by simpa using m) with z | z
      · exact hne z
      · exact hae2 z.symm
    refine wpAny_pyNext_enum_itemD (Draws.tuple (A := X.A.in1) (show X.A.in1.handled = none from I.ok.hd hc) it a hae its.toArray) he ⟨hit, p⟩ hlt hne hef fun y h' tk hy ho hit' hT hsz hk => ?_
    have ey : y = u := by
      have h1 : its[i]? = some y := by simpa using hy
      rw [hu] at h1
      exact (Option.some.inj h1).symm
    subst ey
    refine ⟨_, rfl, wpAny_letOwnedTupleGo_enum (s := { s with heap := h', toks := tk + 1 }) ho fun h'' he' sb => ?_⟩
    have hT2 : h''.get? s.heap.objs.size = some { cls := .type "tuple", data := .seq #[.int i tk, y] } := (sb.2 _ (Nat.ne_of_gt hel)).trans hT
    have new : ObjOk X.prog X.w (upd H s.heap.objs.size (.tup [.int (i : Nat), x])) h'' s.heap.objs.size (.tup [.int (i : Nat), x]) :=
      ⟨by show 2 ≤ sizeLine; decide, [.int i tk, y], .cons ⟨_, rfl⟩ (.cons ru .nil), ⟨_, hT2, rfl, _, rfl⟩⟩
    have I1 : Inv X pins σ (upd H s.heap.objs.size (.tup [.int (i : Nat), x])) { s with heap := h'', toks := tk + 1 } :=
      I.turnedNew (ch := [e, it]) (fun b ob hb q => by
        have nb : b ≠ e ∧ b ≠ it := by simpa using hb
        exact (sb.2 b nb.1).trans (hk b ob nb.1 nb.2 q)) hf (Nat.le_refl _) new
    refine ⟨.ref s.heap.objs.size, _, I1, rfl, ⟨_, x, rfl, I.hok.fresh (Nat.le_refl _), rfl, fun ys hy => by rw [I.tuple_inj hy hq]; exact hx⟩, ⟨⟨y, ?_⟩, hit'.1.at fun o q => (sb.2 it (Ne.symm hne)).trans q, hne⟩, fun b hb => ?_⟩
    · rw [show ((i + 1 : Nat) : Int) = (i : Int) + 1 by omega]
      exact he'
    · have hb' : b < s.heap.objs.size := by
        rcases (show b = e ∨ b = it by simpa using hb) with z | z
        · exact z ▸ hel
        · exact z ▸ hil
      rw [upd_ne (Nat.ne_of_lt hb')]
      exact (hf b hb).1
  done := by
    intro X hP hw hK hc i pins s σ H E I hf st hg
    subst hP hw hK
    obtain ⟨⟨old, he⟩, hit, hne⟩ := st
    obtain ⟨xs, hq, hx⟩ := hg
    obtain ⟨its, rv, p, hz⟩ := I.tuple hq
    obtain ⟨f0, f1, f2, f3, f4, f5⟩ := hf it (by simp)
    have hl := rv.length
    exact next_enumT_end (I.ok.hd hc) he hit p (by simp; omega) fun h' eb => ⟨rfl, I.turned (t' := s.toks) (fun b o hb q => eb b o hb q) f0 f1 f3 f4 f5⟩
  self := fun A i s Q E st h => by
    obtain ⟨⟨_, he⟩, _⟩ := st
    exact wpAny_pyIter_enum he h
def iEnumT (K : PySem.W.Frag) (ta : TA) : TI := fun σ H R => ta σ H fun vs H1 => ∃ a xs, vs = [.ref a] ∧ SqT K H1 a xs ∧ R (IteT K a) H1
theorem pi_enumT {X : Cx} {e : Expr} {ta : TA} {p pos tpos : Pos} {elts : List Expr} {kk : Nat} (hg : Gl X "enumerate") (hm : X.mg "enumerate" = none) (ha : PA X [e] ta)
    (hs : starEach [e] X.env = [(false, eval e X.env)] := by rfl) : PI X (.Tuple elts kk tpos) (.Call (.Name "enumerate" p) [e] [] pos) (iEnumT X.K ta) := by
  refine ⟨fun pins s σ H R I h => ?_⟩
  refine Call_ (ld_blt I hg hm boot_enumerate (callWith_type1 (thn (ha.run pos pins s σ H _ I h) fun us s1 ⟨vs, H1, I1, r1, q1⟩ => ?_) hs rfl))
  obtain ⟨a, xs, ex, hq, q⟩ := q1
  subst ex
  cases r1 with
  | cons r rr =>
    cases rr
    cases r
    obtain ⟨its, rv, pt, hz⟩ := I1.tuple hq
    have hal : a < s1.heap.objs.size := by
      obtain ⟨o, ho, _⟩ := id pt
      exact Heap.lt_size ho
    refine call_enumT (its := its.toArray) pt fun h' he hit hsz hk => wpAny_pyIter_enum he ?_
    have I2 : Inv X pins σ H1 { s1 with heap := h' } := I1.kept (t' := s1.toks) hk
    refine ⟨s1.heap.objs.size + 1, [s1.heap.objs.size + 1, s1.heap.objs.size], _, _, H1, rfl, I2, turn_enumT a (s1.heap.objs.size + 1) s1.heap.objs.size (Nat.ne_of_lt hal) (Nat.ne_of_lt (Nat.lt_succ_of_lt hal)), ⟨⟨.none, he⟩, hit, Nat.succ_ne_self _⟩, fun b hb => ?_, q⟩
    have hle : s1.heap.objs.size ≤ b := by
      rcases (show b = s1.heap.objs.size + 1 ∨ b = s1.heap.objs.size by simpa using hb) with z | z
      · exact z ▸ Nat.le_succ _
      · exact z ▸ Nat.le_refl _
    exact I1.fpOk hle (I1.hok.fresh hle)
theorem walk_enumT {K : PySem.W.Frag} {a : Addr} {xs : List V} : Walk (IteT K a) xs.length (fun H => SqT K H a xs) (YPair (fun i => some (.int (i : Nat))) (fun i => xs[i]?)) := by
  refine ⟨fun i _ hi q => ⟨xs, xs[i], q, by simp [hi]⟩, fun _ q => ⟨xs, q, Nat.le_refl _⟩, fun i H v H' _ q y => ?_⟩
  obtain ⟨T, x, h1, h2, h3, h4⟩ := y
  exact ⟨T, .int (i : Nat), x, h1, h2, h3, rfl, h4 xs q⟩
end Nf

set_option Elab.async false
set_option linter.all false
set_option maxRecDepth 100000
namespace Nf
open PySem PySem.Spec PyProof.Rows L2
/-! ### tuple of a dict's keys -/
section
variable {prog : Program} {w : World} {A : Around} {E : Value → Shared → Prop} {s : Shared} {r d : Addr} {n : Nat} {TT : String} {P : Nat → Value → Prop} {OK : Heap → Prop}
theorem code_tup_src {Q : Value → Shared → Prop} (S : PySem.W.KdlSrc prog w TT r d n P OK) (hh : A.handled = none) (hok : OK s.heap) (hn : n ≤ sizeLine)
    (h : ∀ (h' : Heap) (tk : Nat) (acc : Array Value), (∀ b o, s.heap.get? b = some o → h'.get? b = some o) → ItemsOf P acc n →
      Q (.ref h'.objs.size) { s with heap := h'.push { cls := .type "tuple", data := .seq acc }, toks := tk }) :
    codeAny (model prog w) A (.call (.builtin "tuple.__new__") ⟨[.type "tuple", .ref r], []⟩) (wants Q E) s := by
  refine codeAny_of_tree ?_
  show wpAny _ A.in1 (do
    checkBuiltinCall "tuple.__new__" ⟨[.type "tuple", .ref r], []⟩
    again (.builtin "tuple.__new__" ⟨[.type "tuple", .ref r], []⟩)) _ _ s
  refine wpAny_bind (wpAny_of_eq (F.newCall_tuple_1 _) ?_)
  refine wpAny_pure ⟨plainId_quiet F.plain_tuple_new _, codeAny_builtin F.entry_tuple_new ?_⟩
  rw [Around.under_plainId F.plain_tuple_new _]
  have s1 := sub_tuple_self
  have s2 := init_tuple_lookup
  have s3 := madeHere_tuple
  have ty := S.type s hok
  have nt : TT ≠ "tuple" := fun e => by
    have q := S.notTuple
    rw [e] at q
    exact absurd q (by decide)
  have nt2 := S.notTuple
  have hh1 : A.in1.handled = none := hh
  wp_walk using wpAny_typeOf ty, PySem.W.kdu_collect (A := A.in1) S hh1 hok hn
  intro h' tk acc hk hacc
  show wpAny _ _ (Builtin.Tuple.tupleExact acc.toList.toArray >>= fun v => ret v) _ _ _
  unfold Builtin.Tuple.tupleExact
  have e : acc.toList.toArray = acc := by simp
  rw [e]
  refine wpAny_bind (wpAny_newObj_type (wpAny_pure (h h' tk acc hk hacc)) ?_)
  show acc.size ≤ sizeLine
  rw [hacc.1]
  exact hn
theorem call_tup_src {Q : Value → Shared → Prop} (S : PySem.W.KdlSrc prog w TT r d n P OK) (hh : A.handled = none) (hok : OK s.heap) (hn : n ≤ sizeLine)
    (h : ∀ (h' : Heap) (tk : Nat) (acc : Array Value), (∀ b o, s.heap.get? b = some o → h'.get? b = some o) → ItemsOf P acc n →
      Q (.ref h'.objs.size) { s with heap := h'.push { cls := .type "tuple", data := .seq acc }, toks := tk }) :
    wpAny (model prog w) A (call (.type "tuple") [.ref r]) Q E s := by
  refine callType_codes (Q₁ := fun obj z => z.TypeIs obj "tuple" ∧ Q obj z) F.called_tuple (F.typeCall_tuple_1 _) F.entry_object_init ?_ fun obj z hz => ?_
  · exact code_tup_src (A := A.in1) S hh hok hn fun h' tk acc hk hacc => ⟨⟨_, Heap.get?_push_size _ rfl, rfl⟩, h h' tk acc hk hacc⟩
  · exact ⟨hz.1, F.args_object_init_2 obj _, object_init_meets F.called_tuple.init.lookup F.called_tuple.made (by decide) prog w A.in1 _ z ⟨hz.1, rfl, hz.2⟩⟩
end
def rTupD : List V → Hp → VK → Prop := fun xs H Q => ∃ p kvs, xs = [.ref p] ∧ H p = some (.dK kvs) ∧ ∀ q, H q = none → Q (.ref q) (upd H q (.tup (kvs.map fun kv => kV kv.1)))
theorem call_tup_dK {X : Cx} (hc : X.calm = true) : CallR X (.type "tuple") rTupD := by
  intro pins s σ H xs us Q I r h
  obtain ⟨p, kvs, rfl, hk, q⟩ := h
  obtain ⟨u, rfl, rx⟩ := vals1 r
  obtain rfl : u = Value.ref p := rx
  obtain ⟨z, lo, vs, rk, hd⟩ := (show ObjOk X.prog X.w H s.heap p (.dK kvs) from I.hok p _ hk)
  obtain ⟨ep, hat⟩ := hd.dictAt
  have hl : kvs.length = vs.length := Paired.length rk
  refine call_tup_src (PySem.W.kdl_dict (knd := mixKind X.prog X.w) (kvs := vs) (ep := ep) lo) (I.ok.hd hc) hat (hl ▸ z) fun h' tk acc hkeep hacc => ?_
  have I1 : Inv X pins σ H { s with heap := h', toks := tk } := I.kept (t' := tk) hkeep
  refine ⟨.ref h'.objs.size, upd H h'.objs.size (.tup (kvs.map fun kv => kV kv.1)), I1.laid (t' := tk) (fun b o e => Heap.get?_push_of_some _ e) (Nat.le_refl _) ?_, rfl, q _ (I1.hok.fresh (Nat.le_refl _))⟩
  refine (show ObjOk X.prog X.w _ _ _ (.tup (kvs.map fun kv => kV kv.1)) from ⟨by rw [List.length_map]; exact z, acc.toList, ?_, ?_⟩)
  · have el : acc.toList.length = acc.size := by simp
    refine vals_of_at (by rw [List.length_map, el, hacc.1, hl]) fun j x y h1 h2 => ?_
    obtain ⟨k, m, hky, hi⟩ := hacc.2 j y (by rw [← Array.getElem?_toList]; exact h2)
    have e1 : (kvs.map (·.1))[j]? = some k := by
      rw [KV.keys rk, List.getElem?_map, hky] <;> rfl
    rw [List.getElem?_map] at h1 e1
    obtain ⟨kv, hkv, rfl⟩ := Option.map_eq_some_iff.mp h1
    rw [hkv] at e1
    cases e1
    exact keyIs_rel hi
  · rw [Array.toArray_toList]
    exact IsTup.new _ _
/-! ### y = {k: v for ..} -/
section
variable {X : Cx}
theorem ps_setDc {i : Nat} {y : Str} {py : Pos} {kx vx tg iter : Expr} {ifs : List Expr} {scope : Scope} {own : List (Str × Nat)} {pos spos : Pos} {wi : TI} {g : TG} {tt : TT} {tk tv : TE}
    (hc : X.calm = true) (hN : X.N.Nodup) (hy : X.N[i]? = some y) (hyl : X.env.scope.names.lookup y = some .local)
    (hsw : swapsWith (.DictComp kx vx [⟨tg, iter, ifs, 0⟩] scope pos) (some (.Name y py)) spos.line X.env = pure true)
    (hi : PI X tg iter wi) (ok : BlkOk X.N X.env.scope scope own)
    (hg : ∀ (z : Shared) (H : Hp) (C : Addr) (cl : List (Str × Addr)) (fp : List Addr), PG (X.blk z H scope (compEnvC scope cl C X.env) fp) tg g)
    (ht : ∀ (z : Shared) (H : Hp) (C : Addr) (cl : List (Str × Addr)) (fp : List Addr), PTs (X.blk z H scope (compEnvC scope cl C X.env) fp) ifs tt)
    (hk : ∀ (z : Shared) (H : Hp) (C : Addr) (cl : List (Str × Addr)) (fp : List Addr), PE (X.blk z H scope (compEnvC scope cl C X.env) fp) kx tk)
    (he : ∀ (z : Shared) (H : Hp) (C : Addr) (cl : List (Str × Addr)) (fp : List Addr), PE (X.blk z H scope (compEnvC scope cl C X.env) fp) vx tv)
    (hs : ∀ x, foldedSetIterable iter X.env x = pure x := by intro _; rfl) :
    PS X (.Assign [.Name y py] (.DictComp kx vx [⟨tg, iter, ifs, 0⟩] scope pos) spos) (tAsg (tDc wi g tt tk tv (own.map (·.2))) (gName i)) := by
  refine ⟨fun pins s σ H D I h => ?_⟩
  rw [exec_Assign_Name_used _ _ _ _ hsw]
  refine wpAny_bind (wpAny_standAt (wpAny_bind ?_))
  show wpAny _ X.A (do
    let _ ← comprehension (.DictComp kx vx [⟨tg, iter, ifs, 0⟩] scope pos) scope X.env (firstIterPos [⟨tg, iter, ifs, 0⟩] pos) newDict false (eval iter X.env) (some (assign (.Name y py) X.env))) _ _ s
  have h' : tDc wi g tt tk tv (own.map (·.2)) σ H (fun x H1 => gName i x σ H1 D.nx) := h
  refine wpAny_bind (thn (dc_core (Qf := fun _ z => SP X pins D .next z) hc hN I hi ok hg ht hk he hs h' fun L C z m H' I' q hn f => ?_) fun _ z hq => wpAny_pure (wpAny_pure hq))
  show wpAny _ _ (assign (.Name y py) X.env (.ref L)) _ _ _
  refine wpAny_assign_Name (store_ok2 (v := V.ref L) I' hN hy (.inl hyl) rfl (fun z2 I2 ⟨a, sb, ha⟩ => ?_) (.inr hyl))
  obtain ⟨f0, f1, f2, f3, f4, f5⟩ := f
  have haC : C ≠ a := by
    rcases ha with e | e
    · exact e ▸ f1
    · exact fun e' => f4 y a e e'.symm
  exact ⟨m, hn.sameBut sb haC, fun h3 sb3 => ⟨_, H', I2.turned (t' := z2.toks) (fun b o hb e => (sb3.2 b hb).trans e) f0 f1 f3 f4 f5, q⟩⟩
theorem sw_trueD {kx vx : Expr} {gs : List Comprehension} {scope : Scope} {pos py : Pos} {y : Str} {l : Nat} {env : Env} (hk : env.scope.kind = .function) (hy : env.scope.names.lookup y = some .local) (hl : (py.line == pos.line) = true)
    (ha : (scope.names.any fun (n, k) => n == y && (k == .local || k == .cell)) = false) : swapsWith (.DictComp kx vx gs scope pos) (some (.Name y py)) l env = pure true := by
  have k1 : env.kindOf y = some .local := hy
  have k2 : env.blockKind = .function := by
    unfold Env.blockKind
    rw [hk]
    rfl
  unfold swapsWith
  simp only [k2, k1, ha, Expr.pos, hl]
  rfl
end
/-! ### xs != [] -/
def rNeNil (K : PySem.W.Frag) : R2 := fun x y H Q => ∃ a b xs, x = .ref a ∧ y = .ref b ∧ SqL K H a xs ∧ SqL K H b [] ∧ Q (.bl (!xs.isEmpty)) H
theorem op_ne_nil {X : Cx} (hu : X.A.units < cLine) : OpR X (compareOp .NotEq) (rNeNil X.K) := by
  intro pins s σ H x y v u Q I rx ry h
  obtain ⟨a, b, xs, rfl, rfl, ha, hb, q⟩ := h
  cases rx
  cases ry
  obtain ⟨i1, r1, p1, _⟩ := I.list ha
  obtain ⟨i2, r2, p2, _⟩ := I.list hb
  cases r2
  cases r1 with
  | nil => exact SeqAt.RcNeAt.lists (e := fun _ => true) p1.isList p2.isList rfl hu (fun j h1 _ => absurd h1 (by simp)) X.prog X.w _ _ ⟨.bl false, H, I, rfl, q⟩
  | cons r rr => exact SeqAt.RcNeAt.lists_lengths p1.isList p2.isList (by simp) hu X.prog X.w _ _ ⟨.bl true, H, I, rfl, q⟩
end Nf

set_option Elab.async false
set_option linter.all false
set_option maxRecDepth 100000
namespace Nf
open PySem L2
/-! ### a while with a ghost that falls -/
theorem while_g {α : Type} {c : TT} {tb : TS} {D : Ends} {σ : L2.St} {H : Hp} (Pv : α → L2.St → Hp → Prop) (μ : α → Nat) (x0 : α) (h0 : Pv x0 σ H)
    (hs : ∀ x σ H, Pv x σ H → c σ H fun b H1 => if b = true then ∃ N : L2.St → Hp → Prop, (∀ σ' H', N σ' H' → ∃ m', m' < μ x ∧ ∃ y, μ y = m' ∧ Pv y σ' H') ∧ tb { D with nx := N, ct := N, bk := D.nx } σ H1 else D.nx σ H1) : tWhile c tb D σ H := by
  refine ⟨fun m σ H => ∃ x, μ x = m ∧ Pv x σ H, ⟨_, x0, rfl, h0⟩, ?_⟩
  rintro m σ H ⟨x, rfl, p⟩
  exact hs x σ H p
theorem seq_in {t1 t2 : TS} {D : Ends} {σ : L2.St} {H : Hp} (h : t1 { D with nx := t2 D } σ H) : tSeq t1 t2 D σ H := h
theorem next_in {D : Ends} {σ : L2.St} {H : Hp} (h : D.nx σ H) : tNext D σ H := h
theorem stp_g {α : Type} {tb : TS} {D : Ends} {σ : L2.St} {H1 : Hp} {Pv : α → L2.St → Hp → Prop} {μ : α → Nat} {x : α}
    (h : tb { D with nx := fun σ' H' => ∃ y, μ y < μ x ∧ Pv y σ' H', ct := fun σ' H' => ∃ y, μ y < μ x ∧ Pv y σ' H', bk := D.nx } σ H1) :
    ∃ N : L2.St → Hp → Prop, (∀ σ' H', N σ' H' → ∃ m', m' < μ x ∧ ∃ y, μ y = m' ∧ Pv y σ' H') ∧ tb { D with nx := N, ct := N, bk := D.nx } σ H1 :=
  ⟨_, fun _ _ ⟨y, h1, h2⟩ => ⟨μ y, h1, y, rfl, h2⟩, h⟩
/-! ### nodes -/
abbrev Nd := List Int × Say
mutual
def Say.nod (p : List Int) : Say → List Nd
  | .name x => [(p, .name x)]
  | .skip => [(p, .skip)]
  | .app c w ps => (p, .app c w ps) :: Say.nodA p 0 ps
  | .two c a b => (p, .two c a b) :: (Say.nod (p ++ [0]) a ++ Say.nod (p ++ [1]) b)
def Say.nodA (p : List Int) (k : Nat) : List Say → List Nd
  | [] => []
  | s :: r => Say.nod (p ++ [(k : Int)]) s ++ Say.nodA p (k + 1) r
end
/-- the parts with their paths -/
def kids (p : List Int) : Nat → List Say → List Nd
  | _, [] => []
  | k, s :: r => (p ++ [(k : Int)], s) :: kids p (k + 1) r
def ndAll (st : List Nd) : List Nd := st.flatMap fun q => q.2.nod q.1
theorem nodA_kids (p : List Int) : ∀ (k : Nat) (ps : List Say), Say.nodA p k ps = ndAll (kids p k ps)
  | _, [] => by simp [Say.nodA, kids, ndAll]
  | k, s :: r => by
    simp only [Say.nodA, kids, ndAll, List.flatMap_cons]
    rw [nodA_kids p (k + 1) r]
    rfl
theorem nod_eq (p : List Int) (s : Say) : s.nod p = (p, s) :: ndAll (kids p 0 s.parts) := by
  cases s with
  | name x => simp [Say.nod, Say.parts, kids, ndAll]
  | skip => simp [Say.nod, Say.parts, kids, ndAll]
  | app c w ps => simp only [Say.nod, Say.parts, nodA_kids]
  | two c a b => simp [Say.nod, Say.parts, kids, ndAll]
theorem ndAll_cons {q : Nd} {r : List Nd} : ndAll (q :: r) = q :: ndAll (kids q.1 0 q.2.parts ++ r) := by
  show q.2.nod q.1 ++ ndAll r = _
  rw [nod_eq]
  unfold ndAll
  rw [List.flatMap_append]
  rfl
theorem kids_len (p : List Int) : ∀ (k : Nat) (ps : List Say), (kids p k ps).length = ps.length
  | _, [] => rfl
  | k, _ :: r => by simp only [kids, List.length_cons, kids_len p (k + 1) r]
theorem kids_get (p : List Int) : ∀ (k : Nat) (ps : List Say) (i : Nat), (kids p k ps)[i]? = (ps[i]?).map fun s => (p ++ [((k + i : Nat) : Int)], s)
  | _, [], i => by simp [kids]
  | k, s :: r, 0 => by simp [kids]
  | k, s :: r, i + 1 => by
    simp only [kids, List.getElem?_cons_succ, kids_get p (k + 1) r i]
    rw [show k + 1 + i = k + (i + 1) by omega]
theorem kids_mem {p : List Int} {k : Nat} {ps : List Say} {q : Nd} (h : q ∈ kids p k ps) : q.2 ∈ ps := by
  obtain ⟨i, hi⟩ := List.getElem?_of_mem h
  rw [kids_get] at hi
  obtain ⟨s, hs, rfl⟩ := Option.map_eq_some_iff.mp hi
  exact List.mem_of_getElem? hs
def ndDa (q : Nd) : Da := .tup [.tup (q.1.map Da.int), q.2.da]
def ndsDa (l : List Nd) : Da := .tup (l.map ndDa)
theorem is_nd {H : Hp} {v : V} {q : Nd} (h : Is H v (ndDa q)) : ∃ a b y xs, v = .ref a ∧ H a = some (.tup [.ref b, y]) ∧ H b = some (.tup xs) ∧ IsA H xs (q.1.map Da.int) ∧ Is H y q.2.da := by
  cases h with
  | @tup a xs _ h1 h2 =>
    cases h2 with
    | cons p1 q1 =>
      cases q1 with
      | cons p2 q2 =>
        cases q2
        cases p1 with
        | tup h3 h4 => exact ⟨a, _, _, _, rfl, h1, h3, h4, p2⟩
/-- how many nodes a saying has, told by its depth -/
theorem nod_len {f : Str → Prop} : ∀ {n : Nat} {s : Say} (p : List Int), Say.ok f n s → (s.nod p).length ≤ 4 ^ n
  | 0, _, _, h => h.elim
  | n + 1, s, p, h => by
    rw [nod_eq, List.length_cons]
    have h3 := Say.parts_le h
    have ho := Say.ok_parts h
    have key : ∀ (k : Nat) (ps : List Say), (∀ q ∈ ps, Say.ok f n q) → (ndAll (kids p k ps)).length ≤ ps.length * 4 ^ n := by
      intro k ps
      induction ps generalizing k with
      | nil => intro _; simp [kids, ndAll]
      | cons s r ih =>
        intro hq
        have e : ndAll (kids p k (s :: r)) = s.nod (p ++ [(k : Int)]) ++ ndAll (kids p (k + 1) r) := rfl
        rw [e, List.length_append, List.length_cons, Nat.succ_mul]
        have h1 := nod_len (p ++ [(k : Int)]) (hq s (by simp))
        have h2 := ih (k + 1) fun q hm => hq q (by simp [hm])
        omega
    have h1 := key 0 s.parts ho
    have h2 : s.parts.length * 4 ^ n ≤ 3 * 4 ^ n := Nat.mul_le_mul_right _ h3
    have h4 : 0 < 4 ^ n := Nat.pow_pos (by decide)
    rw [Nat.pow_succ]
    omega
/-- paths are no longer than the depth -/
theorem nod_dep {f : Str → Prop} : ∀ {n : Nat} {s : Say} (p : List Int), Say.ok f n s → ∀ q ∈ s.nod p, q.1.length < p.length + n ∧ Say.ok f n q.2
  | 0, _, _, h => h.elim
  | n + 1, s, p, h => by
    rw [nod_eq]
    intro q hq
    rcases List.mem_cons.mp hq with rfl | hq
    · exact ⟨by show p.length < p.length + (n + 1); omega, h⟩
    · unfold ndAll at hq
      obtain ⟨z, hz, hqz⟩ := List.mem_flatMap.mp hq
      have ho := Say.ok_parts h z.2 (kids_mem hz)
      obtain ⟨i, hi⟩ := List.getElem?_of_mem hz
      rw [kids_get] at hi
      obtain ⟨s', _, rfl⟩ := Option.map_eq_some_iff.mp hi
      have := nod_dep (n := n) _ ho q hqz
      rw [List.length_append] at this
      exact ⟨by have := this.1; simp at this; omega, Say.ok_mono (by omega) this.2⟩
theorem nds_dep {f : Str → Prop} {n : Nat} {s : Say} (h : Say.ok f n s) (hn : n ≤ 8) : Da.dep (2 * n + 4) (ndsDa (s.nod [])) := by
  unfold ndsDa
  refine ⟨?_, fun d hd => ?_⟩
  · rw [List.length_map]
    have h1 := nod_len [] h
    have h2 : 4 ^ n ≤ 4 ^ 8 := Nat.pow_le_pow_right (by decide) hn
    have h3 : 4 ^ 8 = 65536 := by decide
    omega
  · obtain ⟨q, hq, rfl⟩ := List.mem_map.mp hd
    obtain ⟨h1, h2⟩ := nod_dep [] h q hq
    refine ⟨by simp, fun d hd => ?_⟩
    simp at hd
    rcases hd with rfl | rfl
    · refine ⟨by rw [List.length_map]; simp at h1; omega, fun d hd => ?_⟩
      obtain ⟨i, _, rfl⟩ := List.mem_map.mp hd
      exact True.intro
    · exact Say.dep h2
/-! ### names, each once -/
def uadd (acc : List Str) (x : Str) : List Str := if x ∈ acc then acc else acc ++ [x]
def nmOf (q : Nd) : Option Str := match q.2 with
  | .name x => some x
  | _ => none
def ustep (acc : List Str) (q : Nd) : List Str := match nmOf q with
  | some x => uadd acc x
  | none => acc
def unames (l : List Nd) : List Str := l.foldl ustep []
theorem uadd_len (acc : List Str) (x : Str) : (uadd acc x).length ≤ acc.length + 1 := by
  unfold uadd
  split
  · omega
  · simp
theorem ustep_len (acc : List Str) (q : Nd) : (ustep acc q).length ≤ acc.length + 1 := by
  unfold ustep
  split
  · exact uadd_len _ _
  · omega
theorem unames_take {l : List Nd} {i : Nat} {q : Nd} (h : l[i]? = some q) : unames (l.take (i + 1)) = ustep (unames (l.take i)) q := by
  unfold unames
  rw [List.take_add_one, h]
  show List.foldl ustep [] (List.take i l ++ [q]) = _
  rw [List.foldl_append]
  rfl
theorem unames_len (l : List Nd) : (unames l).length ≤ l.length := by
  have key : ∀ (l : List Nd) (acc : List Str), (l.foldl ustep acc).length ≤ acc.length + l.length := by
    intro l
    induction l with
    | nil => intro acc; simp
    | cons q r ih =>
      intro acc
      have h1 := ih (ustep acc q)
      have h2 := ustep_len acc q
      simp only [List.foldl_cons, List.length_cons]
      omega
  have := key l []
  simpa [unames] using this
def strsDa (xs : List Str) : Da := .tup (xs.map Da.str)
theorem isA_strs {H : Hp} : ∀ xs : List Str, IsA H (xs.map V.str) (xs.map Da.str)
  | [] => .nil
  | x :: r => .cons (.str x) (isA_strs r)
theorem isA_ints {H : Hp} : ∀ xs : List Int, IsA H (xs.map V.int) (xs.map Da.int)
  | [] => .nil
  | x :: r => .cons (.int x) (isA_ints r)
theorem ints_of {H : Hp} : ∀ {vs : List V} {xs : List Int}, IsA H vs (xs.map Da.int) → vs = xs.map V.int
  | _, [], h => by cases h; rfl
  | _, x :: r, h => by
    cases h with
    | cons a b => cases a; rw [ints_of b]; rfl
theorem IsA.snoc_inv {H : Hp} : ∀ {ws : List V} {ds : List Da} {d : Da}, IsA H ws (ds ++ [d]) → ∃ ws0 w, ws = ws0 ++ [w] ∧ IsA H ws0 ds ∧ Is H w d
  | _, [], d, h => by
    cases h with
    | cons a b => cases b; exact ⟨[], _, rfl, .nil, a⟩
  | _, e :: r, d, h => by
    cases h with
    | @cons v vs _ _ a b =>
      obtain ⟨ws0, w, rfl, h1, h2⟩ := IsA.snoc_inv (ds := r) b
      exact ⟨v :: ws0, w, rfl, .cons a h1, h2⟩
theorem IsA.rev {H : Hp} : ∀ {ws : List V} {ds : List Da}, IsA H ws ds → IsA H ws.reverse ds.reverse
  | _, _, .nil => .nil
  | _, _, .cons a b => by
    rw [List.reverse_cons, List.reverse_cons]
    exact (IsA.rev b).app (.cons a .nil)
theorem ndAll_ge : ∀ st : List Nd, st.length ≤ (ndAll st).length
  | [] => Nat.zero_le _
  | q :: r => by
    have := ndAll_ge r
    have e : ndAll (q :: r) = q.2.nod q.1 ++ ndAll r := rfl
    rw [e, nod_eq, List.length_append, List.length_cons, List.length_cons]
    omega
def keyT (x : Str) : Key × V := (Sum.inr x, .bl true)
theorem put_keyT (us : List Str) (x : Str) : putK (us.map keyT) (Sum.inr x) (.bl true) = (uadd us x).map keyT := by
  have e1 : ((us.map keyT).any fun kv => decide (kv.1 = (Sum.inr x : Key))) = decide (x ∈ us) := by
    induction us with
    | nil => rfl
    | cons y r ih =>
      rw [List.map_cons, List.any_cons, ih]
      have e2 : decide ((keyT y).1 = (Sum.inr x : Key)) = decide (y = x) := by
        show decide ((Sum.inr y : Key) = Sum.inr x) = _
        exact key_rr y x
      rw [e2]
      by_cases h : y = x
      · subst h; simp
      · have h' : ¬ x = y := fun z => h z.symm
        simp [h, h']
  unfold putK uadd
  rw [e1]
  by_cases h : x ∈ us
  · rw [if_pos h, if_pos (decide_eq_true h), List.map_map]
    refine List.map_congr_left fun y _ => ?_
    show (if (keyT y).1 = (Sum.inr x : Key) then ((keyT y).1, V.bl true) else keyT y) = keyT y
    split <;> rfl
  · rw [if_neg h, if_neg (by simpa using h), List.map_append]
    rfl
end Nf

set_option Elab.async false
set_option linter.all false
set_option maxRecDepth 100000
namespace Nf
open PySem PySem.Spec PyProof.Rows L2
/-! ### list(zip(t, u)) of two tuples of one length -/
theorem zip_len_none : typeLookup (.type "zip") "__len__" = pure none := am_miss_of_fast (by decide +kernel)
theorem zip_hint_none : typeLookup (.type "zip") "__length_hint__" = pure none := am_miss_of_fast (by decide +kernel)
section
variable {prog : Program} {w : World} {A : Around} {E : Value → Shared → Prop} {s : Shared}
/-- next, while the pair given out before is still there -/
theorem zt_item {z TI TO T i j t u : Addr} {f : Bool} {oT : Obj} {k : Nat} {xs ys : Array Value} {x y : Value} {Q : Option Value → Shared → Prop} (D : ZipApart z TI TO i j t u)
    (hz : IsZipHeld s.heap z TI TO T f) (hT : s.heap.get? T = some oT) (hTI : IsPair s.heap TI (.ref i) (.ref j))
    (hi : s.heap.IsTupleIter i t k) (hj : s.heap.IsTupleIter j u k) (ht : s.heap.IsTuple t xs) (hu : s.heap.IsTuple u ys) (hx : xs[k]? = some x) (hy : ys[k]? = some y)
    (hQ : ∀ g, IsZipHeld g z TI TO T true → g.IsTupleIter i t (k + 1) → g.IsTupleIter j u (k + 1) → IsPair g s.heap.objs.size x y → g.objs.size = s.heap.objs.size + 1 →
      (∀ c o, c ≠ z → c ≠ i → c ≠ j → s.heap.get? c = some o → g.get? c = some o) → Q (some (.ref s.heap.objs.size)) { s with heap := g }) :
    wpAny (model prog w) A (pyNext (.ref z)) Q E s := by
  have ty : s.TypeIs (.ref z) "zip" := ⟨_, hz, rfl⟩
  unfold pyNext
  refine wpAny_bind (wpAny_attempt ?_)
  refine wpAny_callSpecial?_slot (name := Str.ofString "__next__") ty F.slot_zip_next ?_
  refine wpAny_call_entry F.slot_zip_next ty F.entry_zip_next ?_ (F.args_zip_next_1 _)
  show wpAny _ _ (field (.ref z) 2 >>= _) _ _ s
  refine wpAny_bind (wpAny_field hz rfl (x := .bool false) rfl ?_)
  show wpAny _ _ (field (.ref z) 3 >>= _) _ _ s
  refine wpAny_bind (wpAny_field hz rfl (x := .ref TI) rfl (wpAny_bind (wpAny_seqItems hTI rfl ?_)))
  show wpAny _ _ (Builtin.SmallTypes.ownedTupleIsFree (.ref z) >>= _) _ _ s
  refine wpAny_bind (wpAny_tupleHeld_zip hz hT fun g1 z1 s1 => ?_)
  simp only [Bool.false_eq_true, if_false]
  refine wpAny_bind ?_
  rw [← Array.forIn_toList]
  simp only [List.forIn_cons, List.forIn_nil]
  refine wpAny_bind (wpAny_bind (wpAny_holding ?_))
  show wpAny _ _ (Builtin.SmallTypes.nextOf (.ref i) >>= _) _ _ _
  refine wpAny_bind (wpAny_nextOf_tuple_item (s := { s with heap := g1 }) (hi.extBut s1.extBut D.i1z) (ht.extBut s1.extBut D.l1z) hx fun g2 i2 s2 => wpAny_pure (wpAny_pure ?_))
  refine wpAny_bind (wpAny_bind (wpAny_holding ?_))
  show wpAny _ _ (Builtin.SmallTypes.nextOf (.ref j) >>= _) _ _ _
  refine wpAny_bind (wpAny_nextOf_tuple_item (s := { s with heap := g2 }) ((hj.extBut s1.extBut D.i2z).extBut s2.extBut D.i12.symm) ((hu.extBut s1.extBut D.l2z).extBut s2.extBut D.l2i1) hy fun g3 j3 s3 => wpAny_pure (wpAny_pure (wpAny_pure ?_)))
  show wpAny _ _ (newTuple [x, y] >>= _) _ _ _
  refine wpAny_bind (wpAny_newTuple (wpAny_pure ⟨_, rfl, wpAny_pure ?_⟩))
  have sz : g3.objs.size = s.heap.objs.size := by rw [s3.1, s2.1, s1.1]
  have z3 : IsZipHeld g3 z TI TO T true := s3.extBut _ _ D.i2z.symm (s2.extBut _ _ D.i1z.symm z1)
  have kp : ∀ c o, c ≠ z → c ≠ i → c ≠ j → s.heap.get? c = some o → g3.get? c = some o := fun c o n1 n2 n3 e => s3.extBut _ _ n3 (s2.extBut _ _ n2 (s1.extBut _ _ n1 e))
  have i3 : g3.IsTupleIter i t (k + 1) := i2.extBut s3.extBut D.i12
  show Q (some (.ref g3.objs.size)) _
  have pr : IsPair (g3.push { cls := .type "tuple", data := .seq #[x, y] }) g3.objs.size x y := Heap.get?_push_size _ rfl
  have sz4 : (g3.push { cls := .type "tuple", data := .seq #[x, y] }).objs.size = g3.objs.size + 1 := Heap.size_push ..
  rw [sz] at pr sz4 ⊢
  exact hQ _ (Heap.get?_push_of_some _ z3) (i3.at fun o e => Heap.get?_push_of_some _ e) (j3.at fun o e => Heap.get?_push_of_some _ e) pr sz4
    fun c o n1 n2 n3 e => Heap.get?_push_of_some _ (kp c o n1 n2 n3 e)
theorem zt_end {z TI TO T i j t u : Addr} {f : Bool} {oT : Obj} {k : Nat} {xs : Array Value} {Q : Option Value → Shared → Prop} (hh : A.handled = none) (D : ZipApart z TI TO i j t u)
    (hz : IsZipHeld s.heap z TI TO T f) (hT : s.heap.get? T = some oT) (hTI : IsPair s.heap TI (.ref i) (.ref j))
    (hi : s.heap.IsTupleIter i t k) (ht : s.heap.IsTuple t xs) (hx : xs[k]? = none)
    (hQ : ∀ g, (∀ c o, c ≠ z → c ≠ i → c ≠ j → s.heap.get? c = some o → g.get? c = some o) → Q none { s with heap := g }) :
    wpAny (model prog w) A (pyNext (.ref z)) Q E s := by
  have ty : s.TypeIs (.ref z) "zip" := ⟨_, hz, rfl⟩
  unfold pyNext
  refine wpAny_bind (wpAny_attempt ?_)
  refine wpAny_callSpecial?_slot (name := Str.ofString "__next__") ty F.slot_zip_next ?_
  refine wpAny_call_entry F.slot_zip_next ty F.entry_zip_next ?_ (F.args_zip_next_1 _)
  show wpAny _ _ (field (.ref z) 2 >>= _) _ _ s
  refine wpAny_bind (wpAny_field hz rfl (x := .bool false) rfl ?_)
  show wpAny _ _ (field (.ref z) 3 >>= _) _ _ s
  refine wpAny_bind (wpAny_field hz rfl (x := .ref TI) rfl (wpAny_bind (wpAny_seqItems hTI rfl ?_)))
  show wpAny _ _ (Builtin.SmallTypes.ownedTupleIsFree (.ref z) >>= _) _ _ s
  refine wpAny_bind (wpAny_tupleHeld_zip hz hT fun g1 z1 s1 => ?_)
  simp only [Bool.false_eq_true, if_false]
  refine wpAny_bind ?_
  rw [← Array.forIn_toList]
  simp only [List.forIn_cons, List.forIn_nil]
  refine wpAny_bind (wpAny_bind (wpAny_holding ?_))
  show wpAny _ _ (Builtin.SmallTypes.nextOf (.ref i) >>= _) _ _ _
  refine wpAny_bind (wpAny_nextOf_tuple_end (s := { s with heap := g1 }) hh (hi.extBut s1.extBut D.i1z) (ht.extBut s1.extBut D.l1z) hx fun g2 e s2 he => ?_)
  obtain ⟨oz, hoz, hcz⟩ := he
  exact wpAny_bind (wpAny_isInstance (T := "StopIteration") (b := true) ⟨oz, hoz, hcz⟩ isSubtype_stop (wpAny_pure (hQ _ fun c o n1 n2 _ q => s2 _ _ n2 (s1.extBut _ _ n1 q))))
/-- the zip between two turns of the loop that fills the list S -/
structure ZSt (xs ys : Array Value) (z TI TO i j t u S : Addr) (k : Nat) (h : Heap) : Prop where
  st : (IsZip h z TI TO .none ∧ ∃ a b, IsPair h TO a b) ∨ ∃ T f oT, IsZipHeld h z TI TO T f ∧ h.get? T = some oT ∧ T ≠ z ∧ T ≠ i ∧ T ≠ j ∧ T ≠ S
  ti : IsPair h TI (.ref i) (.ref j)
  hi : h.IsTupleIter i t k
  hj : h.IsTupleIter j u k
  ht : h.IsTuple t xs
  hu : h.IsTuple u ys
structure ZG (xs ys : Array Value) (S : Addr) (h : Heap) (as : List Addr) : Prop where
  rise : as.Pairwise (· < ·)
  above : ∀ a ∈ as, S < a
  pairs : ∀ (m : Nat) (a : Addr), as[m]? = some a → ∃ x y, xs[m]? = some x ∧ ys[m]? = some y ∧ h.get? a = some { cls := .type "tuple", data := .seq #[x, y] }
theorem ZSt.up {xs ys : Array Value} {z TI TO i j t u S : Addr} {k : Nat} {h h' : Heap} (Z : ZSt xs ys z TI TO i j t u S k h) (nz : ∀ b ∈ [z, TI, TO, i, j, t, u], b ≠ S) (hk : ∀ b o, b ≠ S → h.get? b = some o → h'.get? b = some o) : ZSt xs ys z TI TO i j t u S k h' := by
  have n := fun b (hb : b ∈ [z, TI, TO, i, j, t, u]) => nz b hb
  refine ⟨?_, hk _ _ (n TI (by simp)) Z.ti, Z.hi.at fun o e => hk _ _ (n i (by simp)) e, Z.hj.at fun o e => hk _ _ (n j (by simp)) e, Z.ht.at fun o e => hk _ _ (n t (by simp)) e, Z.hu.at fun o e => hk _ _ (n u (by simp)) e⟩
  rcases Z.st with ⟨a, b, c, d⟩ | ⟨T, f, oT, a, b, c, d, e, g⟩
  · exact .inl ⟨hk _ _ (n z (by simp)) a, b, c, hk _ _ (n TO (by simp)) d⟩
  · exact .inr ⟨T, f, oT, hk _ _ (n z (by simp)) a, hk _ _ g b, c, d, e, g⟩
theorem zs_item {xs ys : Array Value} {z TI TO i j t u S : Addr} {k : Nat} {x y : Value} {Q : Option Value → Shared → Prop} (D : ZipApart z TI TO i j t u) (Z : ZSt xs ys z TI TO i j t u S k s.heap) (hS : S < s.heap.objs.size)
    (hlt : ∀ b ∈ [z, i, j], b < s.heap.objs.size) (hti : TI ≠ TO) (hx : xs[k]? = some x) (hy : ys[k]? = some y)
    (hQ : ∀ g, ZSt xs ys z TI TO i j t u S (k + 1) g → IsPair g s.heap.objs.size x y → g.objs.size = s.heap.objs.size + 1 →
      (∀ c o, c ≠ z → c ≠ TO → c ≠ i → c ≠ j → s.heap.get? c = some o → g.get? c = some o) → Q (some (.ref s.heap.objs.size)) { s with heap := g }) :
    wpAny (model prog w) A (pyNext (.ref z)) Q E s := by
  have nb : ∀ b ∈ [z, i, j], s.heap.objs.size ≠ b := fun b hb => Nat.ne_of_gt (hlt b hb)
  rcases Z.st with ⟨hz, a, b, hTO⟩ | ⟨T, f, oT, hz, hT, n1, n2, n3, n4⟩
  · refine RZ.pyNext_zipT_item D hz Z.ti hTO Z.hi Z.hj Z.ht Z.hu hx hy fun g z' TO' i' j' hT hsz hk => hQ g ⟨.inr ⟨_, false, _, z', hT, nb z (by simp), nb i (by simp), nb j (by simp), Nat.ne_of_gt hS⟩, ?_, i', j', ?_, ?_⟩ hT hsz hk
    · exact hk _ _ D.TIz D.TITO D.TIi1 D.TIi2 Z.ti
    · exact Z.ht.at fun o e => hk _ _ D.l1z D.l1TO D.l1i1 D.l1i2 e
    · exact Z.hu.at fun o e => hk _ _ D.l2z D.l2TO D.l2i1 D.l2i2 e
  · refine zt_item D hz hT Z.ti Z.hi Z.hj Z.ht Z.hu hx hy fun g z' i' j' hT' hsz hk => hQ g ⟨.inr ⟨T, true, oT, z', hk _ _ n1 n2 n3 hT, n1, n2, n3, n4⟩, ?_, i', j', ?_, ?_⟩ hT' hsz fun c o c1 _ c3 c4 e => hk c o c1 c3 c4 e
    · exact hk _ _ D.TIz D.TIi1 D.TIi2 Z.ti
    · exact Z.ht.at fun o e => hk _ _ D.l1z D.l1i1 D.l1i2 e
    · exact Z.hu.at fun o e => hk _ _ D.l2z D.l2i1 D.l2i2 e
theorem zs_end {xs ys : Array Value} {z TI TO i j t u S : Addr} {k : Nat} {Q : Option Value → Shared → Prop} (hh : A.handled = none) (D : ZipApart z TI TO i j t u) (Z : ZSt xs ys z TI TO i j t u S k s.heap) (hx : xs[k]? = none)
    (hQ : ∀ g, (∀ c o, c ≠ z → c ≠ TO → c ≠ i → c ≠ j → s.heap.get? c = some o → g.get? c = some o) → Q none { s with heap := g }) : wpAny (model prog w) A (pyNext (.ref z)) Q E s := by
  rcases Z.st with ⟨hz, a, b, hTO⟩ | ⟨T, f, oT, hz, hT, _⟩
  · exact RZ.pyNext_zipT_end hh D hz Z.ti hTO Z.hi Z.hj Z.ht Z.hu (.inl hx) hQ
  · exact zt_end hh D hz hT Z.ti Z.hi Z.ht hx fun g hk => hQ g fun c o c1 _ c3 c4 e => hk c o c1 c3 c4 e
end
section
variable {prog : Program} {w : World} {A : Around} {s : Shared} {R : Result → Shared → Prop} {xs ys : Array Value} {z TI TO i j t u S : Addr}
theorem zs_loop (hh : A.handled = none) (D : ZipApart z TI TO i j t u) (hlo : ∀ b ∈ [z, TI, TO, i, j, t, u], b < S) (hxy : xs.size = ys.size) (hn : xs.size ≤ sizeLine) (res : Value) {h0 : Heap}
    (hR : ∀ g tk acc c as, (∀ b o, b ≠ S → b ≠ z → b ≠ TO → b ≠ i → b ≠ j → h0.get? b = some o → g.get? b = some o) → g.get? S = some { cls := .type "list", dict := none, data := .seq acc c, slots := #[] } → as.length = xs.size → ZG xs ys S g as →
      acc.toList = as.map Value.ref → R (.ok (.ret res)) { s with heap := g, toks := tk }) :
    ∀ (n k : Nat) (h : Heap) (tk c : Nat) (acc : Array Value) (as : List Addr), xs.size - k = n → k ≤ xs.size → ZSt xs ys z TI TO i j t u S k h → (∀ b o, b ≠ S → b ≠ z → b ≠ TO → b ≠ i → b ≠ j → h0.get? b = some o → h.get? b = some o) →
      h.get? S = some { cls := .type "list", dict := none, data := .seq acc c, slots := #[] } → acc.toList = as.map Value.ref → as.length = k → ZG xs ys S h as →
      codeAny (model prog w) A (.builtin "list.extend.loop" ⟨[.ref S, .ref z, res], []⟩) R { s with heap := h, toks := tk } := by
  have nS : ∀ b ∈ [z, TI, TO, i, j, t, u], b ≠ S := fun b hb => Nat.ne_of_lt (hlo b hb)
  have zS := nS z (by simp)
  intro n
  induction n with
  | zero =>
    intro k h tk c acc as hnk hk Z kp hS hacc hal G
    refine codeAny_builtin F.entry_extend_loop ?_
    rw [Around.under_plainId F.plain_extend_loop _]
    show wpAny _ A.in1 (pyNext (.ref z) >>= _) _ _ _
    refine wpAny_bind (zs_end (s := { s with heap := h, toks := tk }) (A := A.in1) hh D Z (Array.getElem?_eq_none (by omega)) fun g hk' => ?_)
    have off : ∀ b o, S < b → h.get? b = some o → g.get? b = some o := fun b o hb e =>
      hk' b o (Nat.ne_of_gt (Nat.lt_trans (hlo z (by simp)) hb)) (Nat.ne_of_gt (Nat.lt_trans (hlo TO (by simp)) hb)) (Nat.ne_of_gt (Nat.lt_trans (hlo i (by simp)) hb)) (Nat.ne_of_gt (Nat.lt_trans (hlo j (by simp)) hb)) e
    refine wpAny_pure (hR g tk acc c as (fun b o b1 b2 b3 b4 b5 e => hk' b o b2 b3 b4 b5 (kp b o b1 b2 b3 b4 b5 e)) (hk' S _ (Ne.symm zS) (Ne.symm (nS TO (by simp))) (Ne.symm (nS i (by simp))) (Ne.symm (nS j (by simp))) hS) (by omega) ⟨G.rise, G.above, fun m a hm => ?_⟩ hacc)
    obtain ⟨x, y, e1, e2, e3⟩ := G.pairs m a hm
    exact ⟨x, y, e1, e2, off a _ (G.above a (List.mem_of_getElem? hm)) e3⟩
  | succ n ih =>
    intro k h tk c acc as hnk hk Z kp hS hacc hal G
    have hlt : k < xs.size := by omega
    have hx : xs[k]? = some xs[k] := by simp [hlt]
    have hy : ys[k]? = some (ys[k]'(by omega)) := by simp [show k < ys.size by omega]
    have hsz : acc.size = k := by rw [← Array.length_toList, hacc, List.length_map, hal]
    have hSl : S < h.objs.size := Heap.lt_size hS
    refine codeAny_builtin F.entry_extend_loop ?_
    rw [Around.under_plainId F.plain_extend_loop _]
    show wpAny _ A.in1 (pyNext (.ref z) >>= _) _ _ _
    refine wpAny_bind (zs_item (s := { s with heap := h, toks := tk }) D Z hSl (fun b hb => Nat.lt_trans (hlo b (by simp at hb ⊢; rcases hb with h | h | h <;> simp [h])) hSl) D.TITO hx hy fun g Z' hp hz hk' => ?_)
    dsimp only at hp hz hk' ⊢
    have hS' := hk' S _ (Ne.symm zS) (Ne.symm (nS TO (by simp))) (Ne.symm (nS i (by simp))) (Ne.symm (nS j (by simp))) hS
    have up : ∀ b o, b ≠ S → g.get? b = some o → (g.update S (Obj.mapSeq (·.push (Value.ref h.objs.size)))).get? b = some o := fun b o hb e => (Heap.get?_update_other _ _ (Ne.symm hb)).trans e
    have off : ∀ b o, S < b → h.get? b = some o → g.get? b = some o := fun b o hb e =>
      hk' b o (Nat.ne_of_gt (Nat.lt_trans (hlo z (by simp)) hb)) (Nat.ne_of_gt (Nat.lt_trans (hlo TO (by simp)) hb)) (Nat.ne_of_gt (Nat.lt_trans (hlo i (by simp)) hb)) (Nat.ne_of_gt (Nat.lt_trans (hlo j (by simp)) hb)) e
    have there : ∀ a ∈ as, a < h.objs.size := fun a ha => by
      obtain ⟨m, hm⟩ := List.mem_iff_getElem?.mp ha
      obtain ⟨_, _, _, _, e⟩ := G.pairs m a hm
      exact Heap.lt_size e
    show wpAny _ A.in1 (updateSeq S (·.push (Value.ref h.objs.size)) >>= _) _ _ _
    refine wpAny_bind ?_
    refine wpAny_updateSeq hS' rfl (wpAny_pure ⟨plainId_quiet F.plain_extend_loop _, ih (k + 1) _ tk _ (acc.push (Value.ref h.objs.size)) (as ++ [h.objs.size]) (by omega) hlt (Z'.up nS up)
      (fun b o b1 b2 b3 b4 b5 e => up b o b1 (hk' b o b2 b3 b4 b5 (kp b o b1 b2 b3 b4 b5 e))) (Heap.get?_update_self _ hS' rfl) (by rw [Array.toList_push, hacc, List.map_append]; rfl) (by rw [List.length_append, hal]; rfl) ⟨?_, ?_, ?_⟩⟩) (by rw [hsz]; omega) (by show (acc.push (Value.ref h.objs.size)).size ≤ sizeLine + 1; rw [Array.size_push, hsz]; omega)
    · refine List.pairwise_append.mpr ⟨G.rise, List.pairwise_singleton _ _, fun a ha b hb => ?_⟩
      exact List.mem_singleton.mp hb ▸ there a ha
    · intro a ha
      rcases List.mem_append.mp ha with ha | ha
      · exact G.above a ha
      · exact List.mem_singleton.mp ha ▸ hSl
    · intro m b hm
      by_cases h1 : m < as.length
      · rw [List.getElem?_append_left h1] at hm
        obtain ⟨x', y', e1, e2, e3⟩ := G.pairs m b hm
        have hb := G.above b (List.mem_of_getElem? hm)
        exact ⟨x', y', e1, e2, up b _ (Nat.ne_of_gt hb) (off b _ hb e3)⟩
      · rw [List.getElem?_append_right (by omega)] at hm
        have h2 : m - as.length = 0 := by
          have := (List.getElem?_eq_some_iff.mp hm).1
          simp at this
          omega
        have h3 : m = k := by omega
        rw [h2] at hm
        have hb : h.objs.size = b := by simpa using hm
        subst hb h3
        exact ⟨_, _, hx, hy, up _ _ (Nat.ne_of_gt hSl) hp⟩
theorem zs_extend (hh : A.handled = none) (D : ZipApart z TI TO i j t u) (hlo : ∀ b ∈ [z, TI, TO, i, j, t, u], b < S) (hxy : xs.size = ys.size) (hn : xs.size ≤ sizeLine) (res : Value) (c0 : Nat)
    (Z : ZSt xs ys z TI TO i j t u S 0 s.heap) (hz : IsZip s.heap z TI TO .none) (hS : s.heap.get? S = some { cls := .type "list", data := .seq #[] c0 })
    (hR : ∀ g tk acc c as, (∀ b o, b ≠ S → b ≠ z → b ≠ TO → b ≠ i → b ≠ j → s.heap.get? b = some o → g.get? b = some o) → g.get? S = some { cls := .type "list", dict := none, data := .seq acc c, slots := #[] } → as.length = xs.size → ZG xs ys S g as →
      acc.toList = as.map Value.ref → R (.ok (.ret res)) { s with heap := g, toks := tk }) :
    wpAny (model prog w) A.in1 (Builtin.List.listExtendWith (.ref S) (.ref z) res)
      (fun fin q => match fin with | .done f => R (.ok f) q | .again c => c.quiet = true ∧ codeAny (model prog w) A c R q) (fun e q => R (.error e) q) s := by
  have nS : ∀ b ∈ [z, TI, TO, i, j, t, u], b ≠ S := fun b hb => Nat.ne_of_lt (hlo b hb)
  have hSz : S ≠ z := Ne.symm (nS z (by simp))
  have ty : s.TypeIs (.ref z) "zip" := ⟨_, hz, rfl⟩
  unfold Builtin.List.listExtendWith
  refine wpAny_bind (wpAny_typeOf ty ?_)
  have b1 : Builtin.List.listSameRef (.ref S) (.ref z) = false := by simp [Builtin.List.listSameRef, hSz]
  have b2 : (Value.type "zip" == Value.type "list") = false := by decide
  have b3 : (Value.type "zip" == Value.type "tuple") = false := by decide
  simp only [b1, b2, b3, Bool.or_false, Bool.false_eq_true, if_false]
  refine wpAny_bind (wpAny_pyIter_zip hz ?_)
  refine wpAny_bind (wpAny_holding ?_)
  unfold Builtin.List.listLengthHint
  refine wpAny_bind (wpAny_specialOf ty zip_len_none ?_)
  show wpAny _ A.in1 (specialOf (Value.ref z) (Str.ofString "__length_hint__") >>= _) _ _ s
  refine wpAny_bind (wpAny_specialOf ty zip_hint_none (wpAny_pure ?_))
  show wpAny _ A.in1 (rule "list.extend.makes-room" >>= fun _ => Builtin.List.listTouch (.ref S) >>= fun _ =>
    again (.builtin "list.extend.loop" ⟨[.ref S, .ref z, res], []⟩)) _ _ s
  refine wpAny_bind (wpAny_rule (wpAny_bind ?_))
  show wpAny _ A.in1 (updateSeq S (·.push .none) >>= fun _ => updateSeq S (·.pop)) _ _ s
  refine wpAny_bind (wpAny_updateSeq hS rfl ?_)
  have S2 := Heap.get?_update_self (Obj.mapSeq (·.push Value.none)) hS rfl
  refine wpAny_updateSeq (hz := by seq_fits) S2 rfl ?_
  have S3 := Heap.get?_update_self (Obj.mapSeq (·.pop)) S2 rfl
  have oth : ∀ b o, b ≠ S → s.heap.get? b = some o → ((s.heap.update S (Obj.mapSeq (·.push Value.none))).update S (Obj.mapSeq (·.pop))).get? b = some o :=
    fun b o hb e => (Heap.get?_update_other _ _ (Ne.symm hb)).trans ((Heap.get?_update_other _ _ (Ne.symm hb)).trans e)
  refine wpAny_pure ⟨plainId_quiet F.plain_extend_loop _, zs_loop (h0 := s.heap) hh D hlo hxy hn res hR xs.size 0 _ s.toks _ #[] [] (Nat.sub_zero _) (Nat.zero_le _) (Z.up nS oth) (fun b o b1 _ _ _ _ e => oth b o b1 e) S3 rfl rfl ⟨List.Pairwise.nil, (fun _ ha => nomatch ha), (fun m a hm => by simp at hm)⟩⟩
theorem zs_init (hh : A.handled = none) (D : ZipApart z TI TO i j t u) (hlo : ∀ b ∈ [z, TI, TO, i, j, t, u], b < S) (hxy : xs.size = ys.size) (hn : xs.size ≤ sizeLine)
    (Z : ZSt xs ys z TI TO i j t u S 0 s.heap) (hz : IsZip s.heap z TI TO .none) (hS : s.heap.get? S = some { cls := .type "list", data := .seq #[] })
    (hR : ∀ g tk acc c as, (∀ b o, b ≠ S → b ≠ z → b ≠ TO → b ≠ i → b ≠ j → s.heap.get? b = some o → g.get? b = some o) → g.get? S = some { cls := .type "list", dict := none, data := .seq acc c, slots := #[] } → as.length = xs.size → ZG xs ys S g as →
      acc.toList = as.map Value.ref → R (.ok (.ret .none)) { s with heap := g, toks := tk }) :
    wpAny (model prog w) A.in1 (Builtin.«list.__init__» ⟨[.ref S, .ref z], []⟩)
      (fun fin q => match fin with | .done f => R (.ok f) q | .again c => c.quiet = true ∧ codeAny (model prog w) A c R q) (fun e q => R (.error e) q) s := by
  have nS : ∀ b ∈ [z, TI, TO, i, j, t, u], b ≠ S := fun b hb => Nat.ne_of_lt (hlo b hb)
  show wpAny _ A.in1 (do
    let old ← Builtin.List.listItems (.ref S)
    Builtin.List.listUpdate (.ref S) (fun _ => #[])
    letGo old.toList.reverse
    Builtin.List.listExtendWith (.ref S) (.ref z) .none) _ _ s
  refine wpAny_bind ?_
  unfold Builtin.List.listItems
  refine wpAny_bind (wpAny_seqItems hS rfl (wpAny_pure ?_))
  show wpAny _ A.in1 (updateSeq S (fun _ => #[]) >>= fun _ => letGo (#[] : Array Value).toList.reverse >>= fun _ => Builtin.List.listExtendWith (.ref S) (.ref z) .none) _ _ s
  refine wpAny_bind (wpAny_updateSeq hS rfl ?_)
  have S2 := Heap.get?_update_self (Obj.mapSeq (fun _ => (#[] : Array Value))) hS rfl
  have oth : ∀ b o, b ≠ S → s.heap.get? b = some o → (s.heap.update S (Obj.mapSeq (fun _ => (#[] : Array Value)))).get? b = some o := fun b o hb e => (Heap.get?_update_other _ _ (Ne.symm hb)).trans e
  refine wpAny_bind (wpAny_letGo ?_)
  exact zs_extend hh D hlo hxy hn .none _ (Z.up nS oth) (oth _ _ (nS z (by simp)) hz) S2 fun g tk acc c as hk hS' hl hG hacc => hR g tk acc c as (fun b o b1 b2 b3 b4 b5 e => hk b o b1 b2 b3 b4 b5 (oth b o b1 e)) hS' hl hG hacc
end
theorem call_list_zipT {prog : Program} {w : World} {A : Around} {E : Value → Shared → Prop} {s : Shared} {xs ys : Array Value} {z TI TO i j t u : Addr} {Q : Value → Shared → Prop}
    (hh : A.handled = none) (D : ZipApart z TI TO i j t u) (hlo : ∀ b ∈ [z, TI, TO, i, j, t, u], b < s.heap.objs.size) (hxy : xs.size = ys.size) (hn : xs.size ≤ sizeLine)
    (hz : IsZip s.heap z TI TO .none) (hti : IsPair s.heap TI (.ref i) (.ref j)) (hto : IsPair s.heap TO .none .none) (hi : s.heap.IsTupleIter i t 0) (hj : s.heap.IsTupleIter j u 0) (ht : s.heap.IsTuple t xs) (hu : s.heap.IsTuple u ys)
    (hQ : ∀ g tk acc c as, (∀ b o, b ≠ z → b ≠ TO → b ≠ i → b ≠ j → s.heap.get? b = some o → g.get? b = some o) → g.get? s.heap.objs.size = some { cls := .type "list", dict := none, data := .seq acc c, slots := #[] } → as.length = xs.size → ZG xs ys s.heap.objs.size g as →
      acc.toList = as.map Value.ref → Q (.ref s.heap.objs.size) { s with heap := g, toks := tk }) :
    wpAny (model prog w) A (call (.type "list") [.ref z]) Q E s := by
  refine callType_codes (Q₁ := fun obj q => obj = .ref s.heap.objs.size ∧ q = { s with heap := s.heap.push { cls := .type "list", data := .seq #[] } }) F.called_list (F.typeCall_list_1 _) F.entry_list_init
    (code_list_new _ ⟨rfl, rfl⟩) fun obj q hq => ?_
  obtain ⟨rfl, rfl⟩ := hq
  have hS : (s.heap.push { cls := .type "list", data := .seq #[] }).get? s.heap.objs.size = some { cls := .type "list", data := .seq #[] } := Heap.get?_push_size _ rfl
  have ps : ∀ b o, s.heap.get? b = some o → (s.heap.push { cls := .type "list", data := .seq #[] }).get? b = some o := fun b o e => Heap.get?_push_of_some _ e
  refine ⟨⟨_, hS, rfl⟩, F.args_list_init_2 _ _, ?_⟩
  refine zs_init (A := A.in1) hh D hlo hxy hn ⟨.inl ⟨ps _ _ hz, _, _, ps _ _ hto⟩, ps _ _ hti, hi.at fun o e => ps _ _ e, hj.at fun o e => ps _ _ e, ht.at fun o e => ps _ _ e, hu.at fun o e => ps _ _ e⟩ (ps _ _ hz) hS fun g tk acc c as hk hS' hl hG hacc => ?_
  exact ⟨rfl, hQ g tk acc c as (fun b o b2 b3 b4 b5 e => hk b o (Nat.ne_of_lt (Heap.lt_size e)) b2 b3 b4 b5 (ps _ _ e)) hS' hl hG hacc⟩
end Nf

set_option Elab.async false
set_option linter.all false
set_option maxRecDepth 100000
namespace Nf
open PySem PySem.Spec PyProof.Rows L2
/-! ### list(zip(t, u)): the rule -/
def putP : Hp → List Addr → List (V × V) → Hp
  | H, a :: as, p :: ps => putP (upd H a (.tup [p.1, p.2])) as ps
  | H, _, _ => H
theorem putP_off {b : Addr} : ∀ (as : List Addr) (ps : List (V × V)) (H : Hp), b ∉ as → putP H as ps b = H b
  | [], _, _, _ => rfl
  | _ :: _, [], _, _ => rfl
  | a :: as, p :: ps, H, h => by
    have h' : ¬ b = a ∧ b ∉ as := by simpa using h
    show putP (upd H a (.tup [p.1, p.2])) as ps b = H b
    rw [putP_off as ps _ h'.2, upd_ne h'.1]
abbrev PrR (H : Hp) (a : Addr) (p : V × V) : Prop := H a = some (.tup [p.1, p.2])
theorem putP_at : ∀ (as : List Addr) (ps : List (V × V)) (H : Hp), as.length = ps.length → as.Nodup → Paired (PrR (putP H as ps)) as ps
  | [], [], _, _, _ => .nil
  | [], _ :: _, _, h, _ => by cases h
  | _ :: _, [], _, h, _ => by cases h
  | a :: as, p :: ps, H, h, hn => by
    have hn' := List.nodup_cons.mp hn
    refine .cons ?_ (putP_at as ps (upd H a (.tup [p.1, p.2])) (Nat.succ.inj h) hn'.2)
    show putP (upd H a (.tup [p.1, p.2])) as ps a = some (.tup [p.1, p.2])
    rw [putP_off as ps _ hn'.1, upd_same]
theorem pairs_laid {X : Cx} {pins : List (Addr × Obj)} {σ : L2.St} {H : Hp} {s : Shared} {g : Heap} {tk : Nat} {xs ys : List V} {its1 its2 : List Value} {acc : Array Value} {c : Nat} {as : List Addr} {S : Addr}
    (I : Inv X pins σ H s) (hS0 : s.heap.objs.size ≤ S) (r1 : Vals xs its1) (r2 : Vals ys its2) (hl : xs.length = ys.length) (hz : xs.length ≤ sizeLine)
    (hk : ∀ b o, s.heap.get? b = some o → g.get? b = some o) (hS : g.get? S = some { cls := .type "list", dict := none, data := .seq acc c, slots := #[] })
    (has : as.length = its1.toArray.size) (G : ZG its1.toArray its2.toArray S g as) (hacc : acc.toList = as.map Value.ref) :
    ∃ H' : Hp, Same H H' ∧ H S = none ∧ H' S = some (.lst (as.map V.ref)) ∧ Paired (PrR H') as (xs.zip ys) ∧ Inv X pins σ H' { s with heap := g, toks := tk } := by
  have l1 : xs.length = its1.length := r1.length
  have l2 : ys.length = its2.length := r2.length
  have has' : as.length = xs.length := by rw [has, l1]; simp
  have lz : as.length = (xs.zip ys).length := by rw [List.length_zip]; omega
  have hSn : S ∉ as := fun z => Nat.lt_irrefl _ (G.above _ z)
  have nd : as.Nodup := List.Pairwise.imp (fun {a b} (h : a < b) => Nat.ne_of_lt h) G.rise
  have new : ∀ a ∈ as, H a = none := fun a ha => I.hok.fresh (Nat.le_trans hS0 (Nat.le_of_lt (G.above a ha)))
  have newS : H S = none := I.hok.fresh hS0
  have atP := putP_at as (xs.zip ys) (upd H S (.lst (as.map V.ref))) lz nd
  have off : ∀ b, b ∉ as → b ≠ S → putP (upd H S (.lst (as.map V.ref))) as (xs.zip ys) b = H b := fun b h1 h2 => by rw [putP_off as _ _ h1, upd_ne h2]
  have low : ∀ b o, s.heap.get? b = some o → b ∉ as ∧ b ≠ S := fun b o e =>
    ⟨fun z => absurd (Heap.lt_size e) (Nat.not_lt.mpr (Nat.le_trans hS0 (Nat.le_of_lt (G.above b z)))), Nat.ne_of_lt (Nat.lt_of_lt_of_le (Heap.lt_size e) hS0)⟩
  have kp : Same H (putP (upd H S (.lst (as.map V.ref))) as (xs.zip ys)) := fun b v e => by
    rw [off b (fun z => by rw [new b z] at e; cases e) (fun z => by rw [z, newS] at e; cases e)]
    exact e
  have eS : putP (upd H S (.lst (as.map V.ref))) as (xs.zip ys) S = some (.lst (as.map V.ref)) := by rw [putP_off as _ _ hSn, upd_same]
  refine ⟨putP (upd H S (.lst (as.map V.ref))) as (xs.zip ys), kp, newS, eS, atP, ?_⟩
  refine I.call' (ch := []) rfl ⟨fun b o q _ _ _ => hk b o q, fun b o q _ _ _ => ⟨o.slots, hk b o q⟩, fun b o q n _ => ?_, fun b o q _ => ⟨o, hk b o q⟩, fun b zs q => kp b _ q, fun b o v q => kp b _ q, fun b ps q => ⟨#[], by rw [kp b _ q]; simp⟩⟩
    (fun b v q => ?_) I.bare fun b z => by simp at z
  · obtain ⟨z1, z2⟩ := low b o q
    rw [off b z1 z2]
    exact n
  · by_cases hb : b ∈ as
    · obtain ⟨m, pk, e1, e2, e3⟩ := LiI.paired_ix atP hb
      have e3' : putP (upd H S (.lst (as.map V.ref))) as (xs.zip ys) b = some (.tup [pk.1, pk.2]) := e3
      rw [e3'] at q
      cases q
      obtain ⟨x, y, f1, f2, f3⟩ := G.pairs m b e1
      rw [List.getElem?_zip_eq_some] at e2
      obtain ⟨u1, g1, ru1⟩ := r1.get e2.1
      obtain ⟨u2, g2, ru2⟩ := r2.get e2.2
      have x1 : u1 = x := by
        have := f1.symm.trans (show its1.toArray[m]? = some u1 by simpa using g1)
        exact (Option.some.inj this).symm
      have y1 : u2 = y := by
        have := f2.symm.trans (show its2.toArray[m]? = some u2 by simpa using g2)
        exact (Option.some.inj this).symm
      subst x1 y1
      exact ⟨by show 2 ≤ sizeLine; decide, [u1, u2], .cons ru1 (.cons ru2 .nil), ⟨_, f3, rfl, _, rfl⟩⟩
    · by_cases hb2 : b = S
      · rw [hb2] at q ⊢
        rw [eS] at q
        cases q
        refine ⟨by rw [List.length_map]; omega, acc.toList, c, by rw [hacc]; exact LiI.vals_refs as, ?_⟩
        rw [Array.toArray_toList]
        exact hS
      · rw [off b hb hb2] at q
        exact (I.hok b v q).stay (fun d w _ y => hk d w y) (fun d y => kp d _ y) fun d zs y => kp d _ y
def tListZip (K : PySem.W.Frag) (ta : TA) : TE := fun σ H Q => ta σ H fun vs H1 => ∃ a b xs ys, vs = [.ref a, .ref b] ∧ SqT K H1 a xs ∧ SqT K H1 b ys ∧ xs.length = ys.length ∧
  ∀ (H' : Hp) (p : Addr) (ts : List Addr), Same H1 H' → H1 p = none → H' p = some (.lst (ts.map V.ref)) → Paired (PrR H') ts (xs.zip ys) → Q (.ref p) H'
theorem pe_listZip {X : Cx} {e e2 : Expr} {ta : TA} {p p2 pos pos2 : Pos} (hc : X.calm = true) (hg : Gl X "list") (hm : X.mg "list" = none) (hg2 : Gl X "zip") (hm2 : X.mg "zip" = none) (ha : PA X [e, e2] ta)
    (hs2 : starEach [e, e2] X.env = (false, eval e X.env) :: starEach [e2] X.env := by rfl) (hpl : (backTo pos2 (starEach [e2] X.env)).any (·.1) = false := by rfl)
    (hs : starEach [.Call (.Name "zip" p2) [e, e2] [] pos2] X.env = (false, eval (.Call (.Name "zip" p2) [e, e2] [] pos2) X.env) :: starEach [] X.env := by rfl) :
    PE X (.Call (.Name "list" p) [.Call (.Name "zip" p2) [e, e2] [] pos2] [] pos) (tListZip X.K ta) := by
  refine ⟨fun pins s σ H Q I h => ?_⟩
  refine Call_ (ld_blt I hg hm boot_list (PyProof.Rows.callWith_type1 ?_ hs rfl))
  rw [hs]
  show wpAny _ _ (spliced ((false, eval (.Call (.Name "zip" p2) [e, e2] [] pos2) X.env) :: backTo pos (starEach [] X.env))) _ _ s
  refine Calls.spliced_cons ?_
  refine Call_ (ld_blt I hg2 hm2 PyProof.Rows.boot_zip (PyProof.Rows.callWith_type1 (thn (ha.run pos2 pins s σ H _ I h) fun us s1 ⟨vs, H1, I1, r1, q1⟩ => ?_) hs2 hpl))
  obtain ⟨a, b, xs, ys, ex, hqx, hqy, hl, q⟩ := q1
  subst ex
  obtain ⟨u1, u2, eu, ra, rb⟩ := vals2 r1
  subst eu
  obtain rfl : u1 = Value.ref a := ra
  obtain rfl : u2 = Value.ref b := rb
  obtain ⟨its, rv, t1, z1⟩ := I1.tuple hqx
  obtain ⟨its2, rv2, t2, z2⟩ := I1.tuple hqy
  have ha1 : a < s1.heap.objs.size := by obtain ⟨o, ho, _⟩ := id t1; exact Heap.lt_size ho
  have hb1 : b < s1.heap.objs.size := by obtain ⟨o, ho, _⟩ := id t2; exact Heap.lt_size ho
  refine RZ.call_zipT (show s1.heap.IsTuple a its.toArray from t1) (show s1.heap.IsTuple b its2.toArray from t2) fun h' hz hti hto hi hj hsz hk => ?_
  refine Calls.spliced_nil ?_
  have lo5 : ∀ m : Nat, m < 5 → s1.heap.objs.size + m < h'.objs.size := fun m hm => by rw [hsz]; exact Nat.add_lt_add_left hm _
  have szl : its.toArray.size = its2.toArray.size := by
    have := rv.length; have := rv2.length
    simp; omega
  refine call_list_zipT (s := { s1 with heap := h' }) (A := X.A) (I1.ok.hd hc) (PySem.W.ktu_apart s1.heap.objs.size a b ha1 hb1) (fun c hc' => ?_) szl (by have := rv.length; simp; omega) hz hti hto hi hj
    (Heap.IsTuple.at (show s1.heap.IsTuple a its.toArray from t1) fun o e => hk _ _ e) (Heap.IsTuple.at (show s1.heap.IsTuple b its2.toArray from t2) fun o e => hk _ _ e) fun g tk acc c as hk' hS hl' hG hacc => ?_
  · have e' : c = s1.heap.objs.size + 4 ∨ c = s1.heap.objs.size + 2 ∨ c = s1.heap.objs.size + 3 ∨ c = s1.heap.objs.size ∨ c = s1.heap.objs.size + 1 ∨ c = a ∨ c = b := by simpa using hc'
    rcases e' with z | z | z | z | z | z | z
    · exact z ▸ lo5 4 (by decide)
    · exact z ▸ lo5 2 (by decide)
    · exact z ▸ lo5 3 (by decide)
    · exact z ▸ lo5 0 (by decide)
    · exact z ▸ lo5 1 (by decide)
    · exact z ▸ Nat.lt_trans ha1 (lo5 0 (by decide))
    · exact z ▸ Nat.lt_trans hb1 (lo5 0 (by decide))
  · have hkk : ∀ b o, s1.heap.get? b = some o → g.get? b = some o := fun d o e =>
      have ld := Heap.lt_size e
      hk' d o (Nat.ne_of_lt (Nat.lt_add_right 4 ld)) (Nat.ne_of_lt (Nat.lt_add_right 3 ld)) (Nat.ne_of_lt ld) (Nat.ne_of_lt (Nat.lt_add_right 1 ld)) (hk d o e)
    obtain ⟨H', k1, k2, k3, k4, J⟩ := pairs_laid (tk := tk) I1 (show s1.heap.objs.size ≤ h'.objs.size by rw [hsz]; exact Nat.le_add_right _ _) rv rv2 hl z1 hkk hS hl' hG hacc
    exact ⟨.ref _, H', J, rfl, q H' _ as k1 k2 k3 k4⟩
end Nf

set_option Elab.async false
set_option linter.all false
set_option maxRecDepth 100000
namespace Nf
open PySem PySem.Spec PyProof.Rows L2
/-! ### a text so many times -/
theorem op_mul_str {X : Cx} : OpR X (binaryOp .Mult) (fun x y H Q => ∃ z i, x = .str z ∧ y = .int i ∧ z.length ≤ 16 ∧ -(2 ^ 63 : Int) ≤ i ∧ i ≤ 1048576 ∧ Q (.str (Txt.mul z i)) H) := by
  intro pins s σ H x y v u Q I rx ry h
  obtain ⟨z, i, rfl, rfl, h1, h2, h3, q⟩ := h
  obtain ⟨t, rfl⟩ := rx
  obtain ⟨t2, rfl⟩ := ry
  exact PySem.W.KXi.mul rfl h1 h2 h3 fun t3 k _ _ => ⟨.str (Txt.mul z i), H, I.tok _, ⟨_, rfl⟩, q⟩
end Nf
namespace Nf
open PySem L2
/-! ### fitted -/
mutual
def fit : Say → Say → Option Fl
  | .name x, t => some [(x, t)]
  | .app false w ps, .app false w' ts => if w' = w ∧ ts.length = ps.length then fitA ps ts else none
  | _, _ => none
def fitA : List Say → List Say → Option Fl
  | p :: ps, t :: ts => match fit p t with
    | none => none
    | some a => (fitA ps ts).map (a ++ ·)
  | _, _ => some []
end
theorem fit_name {x : Str} {t : Say} : fit (.name x) t = some [(x, t)] := by cases t <;> simp only [fit]
theorem fit_app {w w' : Str} {ps ts : List Say} : fit (.app false w ps) (.app false w' ts) = if w' = w ∧ ts.length = ps.length then fitA ps ts else none := by simp only [fit]
theorem fitA_cons {p t : Say} {ps ts : List Say} : fitA (p :: ps) (t :: ts) = match fit p t with
    | none => none
    | some a => (fitA ps ts).map (a ++ ·) := by simp only [fitA]
theorem fitA_nil {ts : List Say} : fitA [] ts = some [] := by simp only [fitA]
/-- pairs one after another -/
def fitS : List (Say × Say) → Option Fl
  | [] => some []
  | q :: r => match fit q.1 q.2 with
    | none => none
    | some a => (fitS r).map (a ++ ·)
theorem fitA_zip : ∀ {ps ts : List Say}, ps.length = ts.length → fitA ps ts = fitS (ps.zip ts)
  | [], [], _ => by simp [fitA, fitS]
  | p :: ps, t :: ts, h => by
    rw [fitA_cons, List.zip_cons_cons]
    simp only [fitS]
    rw [fitA_zip (by simpa using h)]
theorem fitS_app : ∀ {a b : List (Say × Say)}, fitS (a ++ b) = match fitS a with
    | none => none
    | some x => (fitS b).map (x ++ ·)
  | [], b => by
    simp only [List.nil_append, fitS]
    cases fitS b <;> simp
  | q :: r, b => by
    simp only [List.cons_append, fitS]
    rw [fitS_app (a := r)]
    cases fit q.1 q.2 with
    | none => rfl
    | some x =>
      cases fitS r with
      | none => rfl
      | some y =>
        cases fitS b with
        | none => rfl
        | some z => simp
theorem fitS_cons {q : Say × Say} {r : List (Say × Say)} : fitS (q :: r) = match fit q.1 q.2 with
    | none => none
    | some a => (fitS r).map (a ++ ·) := rfl
/-- heads of a pattern -/
def PN (x : Str) : Prop := x = "name" ∨ x = "made"
theorem ok_PN {n : Nat} {s : Say} (h : Say.ok PN n s) : (∃ x, s = .name x) ∨ ∃ w ps, s = .app false w ps := by
  cases n with
  | zero => exact h.elim
  | succ n =>
    cases s with
    | name x => exact .inl ⟨x, rfl⟩
    | skip => exact absurd (show PN "skip" from h) (by unfold PN; decide)
    | app c w ps =>
      cases c with
      | false => exact .inr ⟨w, ps, rfl⟩
      | true => exact absurd (show PN (hApp true) from h.1) (by unfold PN; decide)
    | two c a b =>
      exact absurd (show PN (hTwo c) from h.1) (by clear h; unfold PN; revert c; decide)
def prDa (q : Say × Say) : Da := .tup [q.1.da, q.2.da]
theorem is_pr {H : Hp} {v : V} {q : Say × Say} (h : Is H v (prDa q)) : ∃ a x y, v = .ref a ∧ H a = some (.tup [x, y]) ∧ Is H x q.1.da ∧ Is H y q.2.da := by
  cases h with
  | @tup a xs _ h1 h2 =>
    cases h2 with
    | cons p1 q1 =>
      cases q1 with
      | cons p2 q2 =>
        cases q2
        exact ⟨a, _, _, rfl, h1, p1, p2⟩
/-- new pairs are data -/
theorem isA_pairs {H : Hp} : ∀ {ts : List Addr} {xs ys : List V} {ps us : List Say}, Paired (PrR H) ts (xs.zip ys) → IsA H xs (ps.map Say.da) → IsA H ys (us.map Say.da) → IsA H (ts.map V.ref) ((ps.zip us).map prDa)
  | [], [], _, [], _, _, _, _ => .nil
  | [], _ :: _, [], _ :: _, [], _, _, _ => .nil
  | [], _ :: _, [], [], _, _, h, _ => by cases h
  | t :: ts, x :: xs, y :: ys, p :: ps, u :: us, h, .cons a b, .cons c d => by
    cases h with
    | cons h1 h2 =>
      exact .cons (.tup (show H t = some (.tup [x, y]) from h1) (.cons a (.cons c .nil))) (isA_pairs h2 b d)
/-- nodes of a stack of pairs -/
def psz (st : List (Say × Say)) : Nat := (st.map fun q => (q.1.nod []).length).sum
theorem nod_len_path (s : Say) (p : List Int) : (s.nod p).length = (s.nod []).length := by
  have key : ∀ (n : Nat) (s : Say) (p p' : List Int), (s.nod p).length ≤ n → (s.nod p).length = (s.nod p').length := by
    intro n
    induction n with
    | zero =>
      intro s p p' h
      rw [nod_eq] at h
      simp at h
    | succ n ih =>
      intro s p p' h
      rw [nod_eq] at h
      rw [nod_eq, nod_eq, List.length_cons, List.length_cons]
      have key2 : ∀ (ps : List Say) (k : Nat), (ndAll (kids p k ps)).length ≤ n → (ndAll (kids p k ps)).length = (ndAll (kids p' k ps)).length := by
        intro ps
        induction ps with
        | nil => intro k _; rfl
        | cons s r ihr =>
          intro k hk
          have e : ∀ z, ndAll (kids z k (s :: r)) = s.nod (z ++ [(k : Int)]) ++ ndAll (kids z (k + 1) r) := fun _ => rfl
          rw [e, List.length_append] at hk
          rw [e, e, List.length_append, List.length_append, ih s _ (p' ++ [(k : Int)]) (by omega), ihr (k + 1) (by omega)]
      rw [key2 s.parts 0 (by simp at h; omega)]
  exact key _ s p [] (Nat.le_refl _)
theorem kids_psz (p : List Int) : ∀ (ps : List Say) (k : Nat), (ndAll (kids p k ps)).length = (ps.map fun q => (q.nod []).length).sum
  | [], _ => rfl
  | s :: r, k => by
    have e : ndAll (kids p k (s :: r)) = s.nod (p ++ [(k : Int)]) ++ ndAll (kids p (k + 1) r) := rfl
    rw [e, List.length_append, kids_psz p r (k + 1), nod_len_path, List.map_cons, List.sum_cons]
theorem nod_len_eq (s : Say) : (s.nod []).length = 1 + (s.parts.map fun q => (q.nod []).length).sum := by
  rw [nod_eq, List.length_cons, kids_psz]
  omega
theorem psz_zip {ps ts : List Say} (h : ps.length = ts.length) : psz (ps.zip ts) = (ps.map fun q => (q.nod []).length).sum := by
  unfold psz
  have e : ((ps.zip ts).map fun q => (q.1.nod []).length) = ((ps.zip ts).map Prod.fst).map fun q => (q.nod []).length := by rw [List.map_map]; rfl
  rw [e, List.map_fst_zip (by omega)]
theorem psz_ge : ∀ st : List (Say × Say), st.length ≤ psz st
  | [] => Nat.zero_le _
  | q :: r => by
    have := psz_ge r
    have e : psz (q :: r) = (q.1.nod []).length + psz r := by simp [psz]
    rw [e, nod_len_eq, List.length_cons]
    omega
theorem psz_app (a b : List (Say × Say)) : psz (a ++ b) = psz a + psz b := by simp [psz]
theorem psz_cons (q : Say × Say) (r : List (Say × Say)) : psz (q :: r) = (q.1.nod []).length + psz r := by simp [psz]
theorem head_made {s : Say} (h : s.head = "made") : ∃ w ps, s = .app false w ps := by
  cases s with
  | name x => exact absurd (show ("name" : Str) = "made" from h) (by decide)
  | skip => exact absurd (show ("skip" : Str) = "made" from h) (by decide)
  | app c w ps =>
    cases c with
    | false => exact ⟨w, ps, rfl⟩
    | true => exact absurd (show hApp true = "made" from h) (by decide)
  | two c a b => exact absurd (show hTwo c = "made" from h) (by clear h; revert c; decide)
theorem fit_none {w : Str} {ps : List Say} {t : Say} (h : t.head ≠ "made") : fit (.app false w ps) t = none := by
  cases t with
  | name x => simp only [fit]
  | skip => simp only [fit]
  | app c w' ts =>
    cases c with
    | false => exact absurd rfl h
    | true => simp only [fit]
  | two c a b => simp only [fit]
def fitDa : Option Fl → Da
  | none => .non
  | some fs => flDa fs
/-- what a fit tells -/
def FR (o : Option Fl) (b : Bool) (fs fs' : Fl) : Prop := match o with
  | none => b = false
  | some a => b = true ∧ fs' = fs ++ a
theorem fitS_take {l : List (Say × Say)} {i : Nat} {z : Say × Say} (h : l[i]? = some z) : fitS (l.take (i + 1)) = (fitS (l.take i)).bind fun x => (fit z.1 z.2).map (x ++ ·) := by
  rw [List.take_add_one, h]
  show fitS (l.take i ++ [z]) = _
  rw [fitS_app]
  have e : fitS [z] = fit z.1 z.2 := by
    rw [fitS_cons]
    cases fit z.1 z.2 <;> simp [fitS]
  rw [e]
  cases fitS (l.take i) <;> rfl
/-- one more part -/
theorem FR_step {o o' : Option Fl} {bs : List Bool} {b : Bool} {fs fs1 fs2 : Fl} (h : FR o (bs.all id) fs fs1) (h' : FR o' b fs1 fs2) :
    FR (o.bind fun x => o'.map (x ++ ·)) ((bs ++ [b]).all id) fs fs2 := by
  cases o with
  | none =>
    have e : bs.all id = false := h
    show (bs ++ [b]).all id = false
    rw [List.all_append, e, Bool.false_and]
  | some x =>
    obtain ⟨e1, e2⟩ := (show bs.all id = true ∧ fs1 = fs ++ x from h)
    cases o' with
    | none =>
      have e : b = false := h'
      show (bs ++ [b]).all id = false
      rw [List.all_append, e]
      simp
    | some y =>
      obtain ⟨e3, e4⟩ := (show b = true ∧ fs2 = fs1 ++ y from h')
      refine (show (bs ++ [b]).all id = true ∧ fs2 = fs ++ (x ++ y) from ⟨?_, ?_⟩)
      · rw [List.all_append, e1, e3]; rfl
      · rw [e4, e2, List.append_assoc]
theorem fit_ok {m : Nat} : ∀ {n : Nat} {p t : Say} {fs : Fl}, Say.ok PN n p → Say.ok (fun _ => True) m t → fit p t = some fs → fs.length ≤ 4 ^ n ∧ ∀ q ∈ fs, Say.ok (fun _ => True) m q.2
  | 0, _, _, _, h, _, _ => h.elim
  | n + 1, p, t, fs, hp, ht, hf => by
    have h4 : 0 < 4 ^ (n + 1) := Nat.pow_pos (by decide)
    rcases ok_PN hp with ⟨x, rfl⟩ | ⟨w, ps, rfl⟩
    · rw [fit_name] at hf
      cases hf
      refine ⟨by simp; omega, fun q hq => ?_⟩
      rw [List.mem_singleton.mp hq]
      exact ht
    · by_cases hm : t.head = "made"
      · obtain ⟨w', ts, rfl⟩ := head_made hm
        rw [fit_app] at hf
        by_cases hc : w' = w ∧ ts.length = ps.length
        · rw [if_pos hc, fitA_zip hc.2.symm] at hf
          cases m with
          | zero => exact ht.elim
          | succ m =>
            have key : ∀ (l : List (Say × Say)) (fs : Fl), (∀ z ∈ l, Say.ok PN n z.1 ∧ Say.ok (fun _ => True) (m + 1) z.2) → fitS l = some fs → fs.length ≤ l.length * 4 ^ n ∧ ∀ q ∈ fs, Say.ok (fun _ => True) (m + 1) q.2 := by
              intro l
              induction l with
              | nil =>
                intro fs _ h
                cases h
                exact ⟨by simp, by simp⟩
              | cons z r ih =>
                intro fs hz h
                rw [fitS_cons] at h
                cases h1 : fit z.1 z.2 with
                | none => rw [h1] at h; cases h
                | some a =>
                  rw [h1] at h
                  obtain ⟨b, hb, rfl⟩ := Option.map_eq_some_iff.mp h
                  obtain ⟨k1, k2⟩ := fit_ok (hz z (by simp)).1 (hz z (by simp)).2 h1
                  obtain ⟨k3, k4⟩ := ih b (fun y hy => hz y (by simp [hy])) hb
                  refine ⟨?_, fun q hq => ?_⟩
                  · rw [List.length_append, List.length_cons, Nat.succ_mul]; omega
                  · rcases List.mem_append.mp hq with h | h
                    · exact k2 q h
                    · exact k4 q h
            obtain ⟨k1, k2⟩ := key _ fs (fun z hz => by
              have hz' := List.of_mem_zip (show (z.1, z.2) ∈ ps.zip ts from hz)
              exact ⟨hp.2.2 z.1 hz'.1, Say.ok_mono (by omega) (ht.2.2 z.2 hz'.2)⟩) hf
            refine ⟨?_, k2⟩
            rw [List.length_zip] at k1
            have h3 : ps.length ≤ 3 := hp.2.1
            have : min ps.length ts.length * 4 ^ n ≤ 3 * 4 ^ n := Nat.mul_le_mul_right _ (by omega)
            rw [Nat.pow_succ]
            omega
        · rw [if_neg hc] at hf
          cases hf
      · rw [fit_none hm] at hf
        cases hf
theorem fitDa_dep {m n : Nat} {p t : Say} (hp : Say.ok PN n p) (ht : Say.ok (fun _ => True) m t) (hn : n ≤ 8) : Da.dep (2 * m + 4) (fitDa (fit p t)) := by
  cases hf : fit p t with
  | none => exact True.intro
  | some fs =>
    obtain ⟨h1, h2⟩ := fit_ok hp ht hf
    have h3 : 4 ^ n ≤ 4 ^ 8 := Nat.pow_le_pow_right (by decide) hn
    have h4 : 4 ^ 8 = 65536 := by decide
    refine ⟨by rw [List.length_map]; omega, fun d hd => ?_⟩
    obtain ⟨q, hq, rfl⟩ := List.mem_map.mp hd
    refine ⟨by simp, fun d hd => ?_⟩
    simp at hd
    rcases hd with rfl | rfl
    · exact True.intro
    · exact Say.dep (h2 q hq)
theorem Keep.noTupL {H : Hp} {m : Addr} {us : List V} (h : H m = some (.lst us)) : NoTup [m] H := fun a ha xs e => by
  rw [List.mem_singleton.mp ha, h] at e
  cases e
theorem Deck.keepB {L : List Addr} {H H' : Hp} {d g c : Addr} {n : Nat} (D : Deck H d g c n) (k : Keep L H H') (h : ∀ a ∈ [d, g, c], a ∉ L) : Deck H' d g c n := by
  obtain ⟨i, h1, h2⟩ := D.hd
  obtain ⟨ds, h3, h4⟩ := D.hg
  obtain ⟨cs, h5, h6⟩ := D.hc
  exact ⟨D.ne1, D.ne2, D.ne3, ⟨i, k.at h1 (h d (by simp)), h2⟩, ⟨ds, k.at h3 (h g (by simp)), h4⟩, ⟨cs, k.at h5 (h c (by simp)), h6⟩⟩
/-- a list made on the way may change -/
theorem Keep.thru {L : List Addr} {H H1 H2 : Hp} {m : Addr} {o : HO} (k : Keep L H H1) (hm : H m = none) (k2 : Keep [m] (upd H1 m o) H2) : Keep L H H2 := fun a u e n => by
  have na : a ≠ m := ne_of_none e hm
  exact k2.at (by rw [upd_ne na]; exact k a u e n) (by simpa using na)
theorem all_true (n : Nat) : (List.replicate n true).all id = true := by
  induction n with
  | zero => rfl
  | succ n ih => rw [List.replicate_succ, List.all_cons, ih]; rfl
end Nf

set_option Elab.async false
set_option linter.all false
set_option maxRecDepth 100000
namespace Nf
open PySem L2
/-! ### names of a pattern, in order -/
mutual
def Say.nm : Say → List Str
  | .name x => [x]
  | .skip => []
  | .app _ _ ps => Say.nmA ps
  | .two _ a b => Say.nm a ++ Say.nm b
def Say.nmA : List Say → List Str
  | [] => []
  | s :: r => Say.nm s ++ Say.nmA r
end
theorem Say.nmA_flat : ∀ ps : List Say, Say.nmA ps = ps.flatMap Say.nm
  | [] => rfl
  | s :: r => by simp only [Say.nmA, List.flatMap_cons, Say.nmA_flat r]
theorem nm_app {c : Bool} {w : Str} {ps : List Say} : (Say.app c w ps).nm = ps.flatMap Say.nm := by simp only [Say.nm, Say.nmA_flat]
theorem nm_nod {f : Str → Prop} : ∀ {n : Nat} {s : Say} (p : List Int), Say.ok f n s → (s.nod p).filterMap nmOf = s.nm
  | 0, _, _, h => h.elim
  | n + 1, s, p, h => by
    have ho := Say.ok_parts h
    have key : ∀ (ps : List Say) (k : Nat), (∀ q ∈ ps, Say.ok f n q) → (ndAll (kids p k ps)).filterMap nmOf = ps.flatMap Say.nm := by
      intro ps
      induction ps with
      | nil => intro k _; rfl
      | cons s r ih =>
        intro k hq
        have e : ndAll (kids p k (s :: r)) = s.nod (p ++ [(k : Int)]) ++ ndAll (kids p (k + 1) r) := rfl
        rw [e, List.filterMap_append, nm_nod _ (hq s (by simp)), ih (k + 1) fun q hm => hq q (by simp [hm])]
        rfl
    rw [nod_eq, List.filterMap_cons, key s.parts 0 ho]
    cases s with
    | name x => simp [nmOf, Say.parts, Say.nm]
    | skip => simp [nmOf, Say.parts, Say.nm]
    | app c w ps => rw [nm_app]; rfl
    | two c a b => simp [nmOf, Say.parts, Say.nm]
theorem foldl_uadd : ∀ (l acc : List Str), (acc ++ l).Nodup → l.foldl uadd acc = acc ++ l
  | [], acc, _ => by simp
  | x :: r, acc, h => by
    have hx : x ∉ acc := fun hm => by
      rw [List.nodup_append] at h
      exact h.2.2 x hm x (by simp) rfl
    have e : uadd acc x = acc ++ [x] := by unfold uadd; rw [if_neg hx]
    rw [List.foldl_cons, e, foldl_uadd r (acc ++ [x]) (by simpa using h)]
    simp
theorem unames_eq (l : List Nd) (h : (l.filterMap nmOf).Nodup) : unames l = l.filterMap nmOf := by
  have key : ∀ (l : List Nd) (acc : List Str), l.foldl ustep acc = (l.filterMap nmOf).foldl uadd acc := by
    intro l
    induction l with
    | nil => intro acc; rfl
    | cons q r ih =>
      intro acc
      rw [List.foldl_cons, ih, List.filterMap_cons]
      unfold ustep
      cases nmOf q <;> rfl
  unfold unames
  rw [key, foldl_uadd _ [] (by simpa using h)]
  rfl
/-! ### a pattern filled fits by the fills -/
def fillOf (fs : Fl) (x : Str) : Str × Say := (x, (fs.lookup x).getD (.name x))
theorem fit_fill {fs : Fl} : ∀ {n : Nat} {p : Say}, Say.ok PN n p → fit p (p.fill fs) = some (p.nm.map (fillOf fs))
  | 0, _, h => h.elim
  | n + 1, p, h => by
    rcases ok_PN h with ⟨x, rfl⟩ | ⟨w, ps, rfl⟩
    · rw [fit_name, Say.fill_name]
      simp [Say.nm, fillOf]
    · rw [Say.fill_app, fit_app, if_pos ⟨rfl, List.length_map _⟩, nm_app]
      have ho := h.2.2
      clear h
      induction ps with
      | nil => simp [fitA]
      | cons s r ih =>
        rw [List.map_cons, fitA_cons, fit_fill (ho s (by simp)), ih fun q hq => ho q (by simp [hq])]
        simp
theorem fitA_keys : ∀ {ps ts : List Say} {fs : Fl}, (∀ q ∈ ps, ∀ t fs, fit q t = some fs → fs.map Prod.fst = q.nm) → ts.length = ps.length → fitA ps ts = some fs → fs.map Prod.fst = ps.flatMap Say.nm
  | [], _, fs, _, _, hf => by
    rw [fitA_nil] at hf
    cases hf
    rfl
  | s :: r, [], _, _, hl, _ => by simp at hl
  | s :: r, t1 :: tr, fs, key, hl, hf => by
    rw [fitA_cons] at hf
    cases h1 : fit s t1 with
    | none => rw [h1] at hf; cases hf
    | some a =>
      rw [h1] at hf
      obtain ⟨b, hb, rfl⟩ := Option.map_eq_some_iff.mp hf
      rw [List.map_append, key s (by simp) t1 a h1, fitA_keys (fun q hq => key q (by simp [hq])) (by simpa using hl) hb]
      rfl
theorem fit_keys : ∀ {n : Nat} {p t : Say} {fs : Fl}, Say.ok PN n p → fit p t = some fs → fs.map Prod.fst = p.nm
  | 0, _, _, _, h, _ => h.elim
  | n + 1, p, t, fs, h, hf => by
    rcases ok_PN h with ⟨x, rfl⟩ | ⟨w, ps, rfl⟩
    · rw [fit_name] at hf
      cases hf
      simp [Say.nm]
    · by_cases hm : t.head = "made"
      · obtain ⟨w', ts, rfl⟩ := head_made hm
        rw [fit_app] at hf
        by_cases hc : w' = w ∧ ts.length = ps.length
        · rw [if_pos hc] at hf
          rw [nm_app]
          exact fitA_keys (fun q hq t fs hq' => fit_keys (h.2.2 q hq) hq') hc.2 hf
        · rw [if_neg hc] at hf
          cases hf
      · rw [fit_none hm] at hf
        cases hf
/-- a filling asks for the names' fills alone -/
theorem fill_congr {fs gs : Fl} : ∀ {n : Nat} {p : Say}, Say.ok PN n p → (∀ x ∈ p.nm, fs.lookup x = gs.lookup x) → p.fill fs = p.fill gs
  | 0, _, h, _ => h.elim
  | n + 1, p, h, hx => by
    rcases ok_PN h with ⟨x, rfl⟩ | ⟨w, ps, rfl⟩
    · rw [Say.fill_name, Say.fill_name, hx x (by simp [Say.nm])]
    · rw [Say.fill_app, Say.fill_app]
      congr 1
      refine List.map_congr_left fun q hq => fill_congr (h.2.2 q hq) fun x hxq => hx x ?_
      rw [nm_app]
      exact List.mem_flatMap.mpr ⟨q, hq, hxq⟩
theorem lookup_mem {fs : Fl} {x : Str} (h : x ∈ fs.map Prod.fst) : ∃ s, fs.lookup x = some s := by
  cases hl : fs.lookup x with
  | some s => exact ⟨s, rfl⟩
  | none =>
    rw [List.lookup_eq_none_iff] at hl
    obtain ⟨q, hq, rfl⟩ := List.mem_map.mp h
    have := hl q hq
    simp at this
theorem fit_back : ∀ {n : Nat} {p t : Say} {fs : Fl}, Say.ok PN n p → p.nm.Nodup → fit p t = some fs → p.fill fs = t
  | 0, _, _, _, h, _, _ => h.elim
  | n + 1, p, t, fs, h, hnd, hf => by
    rcases ok_PN h with ⟨x, rfl⟩ | ⟨w, ps, rfl⟩
    · rw [fit_name] at hf
      cases hf
      rw [Say.fill_name]
      simp [List.lookup]
    · by_cases hm : t.head = "made"
      · obtain ⟨w', ts, rfl⟩ := head_made hm
        rw [fit_app] at hf
        by_cases hc : w' = w ∧ ts.length = ps.length
        · rw [if_pos hc] at hf
          obtain ⟨rfl, hl⟩ := hc
          rw [Say.fill_app]
          congr 1
          have ho := h.2.2
          rw [nm_app] at hnd
          clear h hm
          induction ps generalizing ts fs with
          | nil =>
            cases ts with
            | nil => rfl
            | cons _ _ => simp at hl
          | cons s r ih =>
            cases ts with
            | nil => simp at hl
            | cons t1 tr =>
              rw [fitA_cons] at hf
              cases h1 : fit s t1 with
              | none => rw [h1] at hf; cases hf
              | some a =>
                rw [h1] at hf
                obtain ⟨b, hb, rfl⟩ := Option.map_eq_some_iff.mp hf
                rw [List.flatMap_cons, List.nodup_append] at hnd
                obtain ⟨n1, n2, n3⟩ := hnd
                have ka := fit_keys (ho s (by simp)) h1
                have hor : ∀ q ∈ r, Say.ok PN n q := fun q hq => ho q (by simp [hq])
                rw [List.map_cons]
                congr 1
                · rw [← fit_back (ho s (by simp)) n1 h1]
                  refine fill_congr (ho s (by simp)) fun x hx => ?_
                  obtain ⟨v, hv⟩ := lookup_mem (fs := a) (x := x) (by rw [ka]; exact hx)
                  rw [List.lookup_append, hv]
                  rfl
                · rw [← ih (ts := tr) (fs := b) hb (by simpa using hl) n2 hor]
                  refine List.map_congr_left fun q hq => fill_congr (hor q hq) fun x hx => ?_
                  have hxr : x ∈ r.flatMap Say.nm := List.mem_flatMap.mpr ⟨q, hq, hx⟩
                  have hxa : a.lookup x = none := lookup_none_of (by rw [ka]; exact fun hm => n3 x hm x hxr rfl)
                  rw [List.lookup_append, hxa]
                  rfl
        · rw [if_neg hc] at hf
          cases hf
      · rw [fit_none hm] at hf
        cases hf
end Nf

set_option Elab.async false
set_option linter.all false
set_option maxRecDepth 100000
namespace Nf
open PySem L2
/-! ### the names that are put in: all unlike -/
def cj (j : Nat) : Nat := 97 + j * 7 % 26
def tj (j : Nat) : Str := Txt.mul ⟨#[cj j]⟩ (1 + ((j : Nat) : Int) / 26)
theorem foldl_arr {x : Array Nat} : ∀ (n : Nat) (acc : Array Nat), ((List.replicate n x).foldl (· ++ ·) acc).toList = acc.toList ++ (List.replicate n x.toList).flatten
  | 0, acc => by simp
  | n + 1, acc => by
    rw [List.replicate_succ, List.foldl_cons, foldl_arr n, List.replicate_succ, List.flatten_cons, Array.toList_append, List.append_assoc]
theorem mul_codes (c : Nat) (n : Nat) : (Txt.mul ⟨#[c]⟩ ((n + 1 : Nat) : Int)).cps.toList = List.replicate (n + 1) c := by
  unfold Txt.mul
  rw [if_neg (by omega)]
  cases n with
  | zero => simp
  | succ n =>
    rw [if_neg]
    · show ((List.replicate ((n + 1 + 1 : Nat) : Int).toNat #[c]).foldl (· ++ ·) #[]).toList = _
      rw [foldl_arr, Int.toNat_natCast]
      simp [List.flatten_replicate_singleton]
    · have h1 : (((n + 1 + 1 : Nat) : Int) == 1) = false := by
        rw [beq_eq_false_iff_ne]
        omega
      have h2 : (Str.length ⟨#[c]⟩ == 0) = false := rfl
      rw [h1, h2]
      decide
theorem tj_codes (j : Nat) : (tj j).cps.toList = List.replicate (j / 26 + 1) (cj j) := by
  unfold tj
  have e : (1 + ((j : Nat) : Int) / 26) = ((j / 26 + 1 : Nat) : Int) := by omega
  rw [e, mul_codes]
theorem tj_inj {i j : Nat} (h : tj i = tj j) : i = j := by
  have e : (tj i).cps.toList = (tj j).cps.toList := by rw [h]
  rw [tj_codes, tj_codes] at e
  have h1 := congrArg List.length e
  rw [List.length_replicate, List.length_replicate] at h1
  have h2 : cj i = cj j := by
    have := congrArg List.head? e
    simpa [List.replicate_succ] using this
  unfold cj at h2
  omega
theorem tj_nodup (k : Nat) : ((List.range k).map tj).Nodup := by
  exact (List.pairwise_map.mpr (List.nodup_range.imp fun h e => h (tj_inj e)))
/-! ### where a pattern and a thing part -/
def ndAt (l : List Nd) (p : List Int) : Option Say := (l.find? fun q => decide (q.1 = p)).map (·.2)
def badAt (l : List Nd) (q : Nd) : Bool := match q.2 with
  | .app false w ps => match ndAt l q.1 with
    | some (.app false w' ts) => !(decide (w' = w) && decide (ts.length = ps.length))
    | _ => true
  | _ => false
def bad (p t : Say) (pre : List Int) : Bool := (p.nod pre).any (badAt (t.nod pre))
theorem nod_pre : ∀ {n : Nat} {s : Say} {f : Str → Prop} (p : List Int), Say.ok f n s → ∀ q ∈ s.nod p, ∃ r, q.1 = p ++ r
  | 0, _, _, _, h => h.elim
  | n + 1, s, f, p, h => by
    intro q hq
    rw [nod_eq] at hq
    rcases List.mem_cons.mp hq with rfl | hq
    · exact ⟨[], by simp⟩
    · unfold ndAll at hq
      obtain ⟨z, hz, hqz⟩ := List.mem_flatMap.mp hq
      have ho := Say.ok_parts h z.2 (kids_mem hz)
      obtain ⟨i, hi⟩ := List.getElem?_of_mem hz
      rw [kids_get] at hi
      obtain ⟨s', _, rfl⟩ := Option.map_eq_some_iff.mp hi
      obtain ⟨r, hr⟩ := nod_pre (n := n) _ ho q hqz
      exact ⟨[((0 + i : Nat) : Int)] ++ r, by rw [hr]; simp⟩
theorem ndAt_app {l m : List Nd} {p : List Int} (h : ∀ q ∈ l, q.1 ≠ p) : ndAt (l ++ m) p = ndAt m p := by
  unfold ndAt
  rw [List.find?_append, List.find?_eq_none.mpr (fun q hq => by simpa using h q hq)]
  rfl
theorem ndAt_appL {l m : List Nd} {p : List Int} (h : ∀ q ∈ m, q.1 ≠ p) : ndAt (l ++ m) p = ndAt l p := by
  have e : List.find? (fun q : Nd => decide (q.1 = p)) m = none := List.find?_eq_none.mpr (fun q hq => by simpa using h q hq)
  unfold ndAt
  rw [List.find?_append, e, Option.or_none]
/-- below the i-th part -/
theorem ndAt_kids {f : Str → Prop} {n : Nat} {pre r : List Int} : ∀ {ts : List Say} {k i : Nat} {t : Say}, (∀ z ∈ ts, Say.ok f n z) → ts[i]? = some t → ndAt (ndAll (kids pre k ts)) (pre ++ [((k + i : Nat) : Int)] ++ r) = ndAt (t.nod (pre ++ [((k + i : Nat) : Int)])) (pre ++ [((k + i : Nat) : Int)] ++ r)
  | [], _, i, _, _, h => by simp at h
  | s :: ts, k, 0, t, ho, h => by
    have e : t = s := by simpa using h.symm
    subst e
    have e2 : ndAll (kids pre k (t :: ts)) = t.nod (pre ++ [(k : Int)]) ++ ndAll (kids pre (k + 1) ts) := rfl
    rw [e2, Nat.add_zero]
    refine ndAt_appL fun q hq e => ?_
    unfold ndAll at hq
    obtain ⟨z, hz, hqz⟩ := List.mem_flatMap.mp hq
    have hoz := ho z.2 (by have := kids_mem hz; simp [this])
    obtain ⟨m, hm⟩ := List.getElem?_of_mem hz
    rw [kids_get] at hm
    obtain ⟨s', _, rfl⟩ := Option.map_eq_some_iff.mp hm
    obtain ⟨r', hr'⟩ := nod_pre _ hoz q hqz
    rw [hr'] at e
    simp at e
    omega
  | s :: ts, k, i + 1, t, ho, h => by
    have e2 : ndAll (kids pre k (s :: ts)) = s.nod (pre ++ [(k : Int)]) ++ ndAll (kids pre (k + 1) ts) := rfl
    rw [e2, ndAt_app]
    · have := ndAt_kids (pre := pre) (r := r) (k := k + 1) (i := i) (fun z hz => ho z (by simp [hz])) (show ts[i]? = some t by simpa using h)
      rw [show k + 1 + i = k + (i + 1) by omega] at this
      exact this
    · intro q hq e
      obtain ⟨r', hr'⟩ := nod_pre _ (ho s (by simp)) q hq
      rw [hr'] at e
      simp at e
      omega
theorem any_congr {α : Type} {l : List α} {f g : α → Bool} (h : ∀ x ∈ l, f x = g x) : l.any f = l.any g := by
  induction l with
  | nil => rfl
  | cons x r ih => rw [List.any_cons, List.any_cons, h x (by simp), ih fun y hy => h y (by simp [hy])]
theorem badAt_congr {l m : List Nd} {q : Nd} (h : ndAt l q.1 = ndAt m q.1) : badAt l q = badAt m q := by
  unfold badAt
  rw [h]
theorem bad_fit {f : Str → Prop} {m : Nat} : ∀ {n : Nat} {p t : Say} (pre : List Int), Say.ok PN n p → Say.ok f m t → bad p t pre = (fit p t).isNone
  | 0, _, _, _, h, _ => h.elim
  | n + 1, p, t, pre, hp, ht => by
    rcases ok_PN hp with ⟨x, rfl⟩ | ⟨w, ps, rfl⟩
    · rw [fit_name]
      simp [bad, Say.nod, badAt]
    · have hat : ndAt (t.nod pre) pre = some t := by rw [nod_eq]; simp [ndAt]
      have e0 : bad (.app false w ps) t pre = (badAt (t.nod pre) (pre, .app false w ps) || (ndAll (kids pre 0 ps)).any (badAt (t.nod pre))) := by
        unfold bad
        rw [nod_eq, List.any_cons]
        rfl
      rw [e0]
      by_cases hm : t.head = "made"
      · obtain ⟨w', ts, rfl⟩ := head_made hm
        have e1 : badAt ((Say.app false w' ts).nod pre) (pre, .app false w ps) = !(decide (w' = w) && decide (ts.length = ps.length)) := by
          unfold badAt
          dsimp only
          rw [hat]
        rw [e1, fit_app]
        by_cases hc : w' = w ∧ ts.length = ps.length
        · rw [if_pos hc, decide_eq_true hc.1, decide_eq_true hc.2, Bool.and_self, Bool.not_true, Bool.false_or]
          have hl := hc.2
          cases m with
          | zero => exact ht.elim
          | succ m =>
            have ho := hp.2.2
            have hto := ht.2.2
            have en : (Say.app false w' ts).nod pre = (pre, .app false w' ts) :: ndAll (kids pre 0 ts) := nod_eq _ _
            have hrest : (ndAll (kids pre 0 ps)).any (badAt ((Say.app false w' ts).nod pre)) = (ndAll (kids pre 0 ps)).any (badAt (ndAll (kids pre 0 ts))) := by
              refine any_congr fun q hq => badAt_congr ?_
              rw [en]
              have : ndAt ([(pre, Say.app false w' ts)] ++ ndAll (kids pre 0 ts)) q.1 = ndAt (ndAll (kids pre 0 ts)) q.1 := by
                refine ndAt_app fun z hz e => ?_
                rw [List.mem_singleton.mp hz] at e
                unfold ndAll at hq
                obtain ⟨y, hy, hqy⟩ := List.mem_flatMap.mp hq
                obtain ⟨i, hi⟩ := List.getElem?_of_mem hy
                rw [kids_get] at hi
                obtain ⟨s', hs', rfl⟩ := Option.map_eq_some_iff.mp hi
                obtain ⟨r', hr'⟩ := nod_pre _ (ho s' (List.mem_of_getElem? hs')) q hqy
                rw [hr'] at e
                simp at e
              exact this
            rw [hrest]
            have key : ∀ (ps2 ts2 : List Say) (k : Nat), ts2.length = ps2.length → (∀ q ∈ ps2, Say.ok PN n q) → (∀ z ∈ ts2, Say.ok f m z) → (∀ i : Nat, ts[k + i]? = ts2[i]?) →
                (ndAll (kids pre k ps2)).any (badAt (ndAll (kids pre 0 ts))) = (fitA ps2 ts2).isNone := by
              intro ps2
              induction ps2 with
              | nil =>
                intro ts2 k _ _ _ _
                rw [fitA_nil]
                rfl
              | cons s r ih =>
                intro ts2 k hl2 ho2 hto2 hix
                cases ts2 with
                | nil => simp at hl2
                | cons t1 tr =>
                  have e2 : ndAll (kids pre k (s :: r)) = s.nod (pre ++ [(k : Int)]) ++ ndAll (kids pre (k + 1) r) := rfl
                  rw [e2, List.any_append, ih tr (k + 1) (by simpa using hl2) (fun q hq => ho2 q (by simp [hq])) (fun z hz => hto2 z (by simp [hz])) (fun i => by
                    have := hix (i + 1)
                    rw [show k + (i + 1) = k + 1 + i by omega] at this
                    simpa using this)]
                  have h1 : (s.nod (pre ++ [(k : Int)])).any (badAt (ndAll (kids pre 0 ts))) = bad s t1 (pre ++ [(k : Int)]) := by
                    unfold bad
                    refine any_congr fun q hq => badAt_congr ?_
                    obtain ⟨r', hr'⟩ := nod_pre _ (ho2 s (by simp)) q hq
                    rw [hr']
                    have := ndAt_kids (f := f) (n := m) (pre := pre) (r := r') (ts := ts) (k := 0) (i := k) (t := t1) hto (by have := hix 0; simpa using this)
                    rw [Nat.zero_add] at this
                    exact this
                  rw [h1, bad_fit _ (ho2 s (by simp)) (hto2 t1 (by simp)), fitA_cons]
                  cases fit s t1 with
                  | none => rfl
                  | some a => cases fitA r tr <;> rfl
            exact key ps ts 0 hl ho hto (fun i => by rw [Nat.zero_add])
        · rw [if_neg hc]
          have : (decide (w' = w) && decide (ts.length = ps.length)) = false := by
            rw [Bool.and_eq_false_iff]
            by_cases h1 : w' = w
            · exact .inr (decide_eq_false (fun h2 => hc ⟨h1, h2⟩))
            · exact .inl (decide_eq_false h1)
          rw [this]
          rfl
      · rw [fit_none hm]
        have e1 : badAt (t.nod pre) (pre, .app false w ps) = true := by
          unfold badAt
          dsimp only
          rw [hat]
          cases t with
          | app c w' ts =>
            cases c with
            | false => exact absurd rfl hm
            | true => rfl
          | _ => rfl
        rw [e1]
        rfl
end Nf

set_option Elab.async false
set_option linter.all false
set_option maxRecDepth 100000
namespace Nf
open PySem PySem.Spec PyProof.Rows L2
/-! ### tuple(xs), known to have no dict of its own -/
def rTupF (K : PySem.W.Frag) : List V → Hp → VK → Prop := fun xs H Q => ∃ p ys, xs = [.ref p] ∧ SqL K H p ys ∧ ∀ l o, H l = none → Obj.dict o = none → Q (.ref l) (upd H l (.frz o (.tup ys)))
theorem call_tup_frz {X : Cx} : CallR X (.type "tuple") (rTupF X.K) := by
  intro pins s σ H xs us Q I r h
  obtain ⟨p, ys, rfl, hs, q⟩ := h
  obtain ⟨u, rfl, rx⟩ := vals1 r
  obtain rfl : u = Value.ref p := rx
  obtain ⟨its, rv, pl, hz⟩ := I.list hs
  refine call_tuple_list pl.isList (fun h' hk => ?_) (by rw [List.size_toArray, ← rv.length]; exact hz)
  have I1 : Inv X pins σ H { s with heap := h' } := I.kept (t' := s.toks) hk
  have I2 : Inv X pins σ (upd H h'.objs.size (.frz { cls := .type "tuple", data := .seq its.toArray } (.tup ys))) { s with heap := h'.push { cls := .type "tuple", data := .seq its.toArray } } :=
    I1.laid (t' := s.toks) (fun b o e => Heap.get?_push_of_some _ e) (Nat.le_refl _) ⟨Heap.get?_push_size _ rfl, hz, its, rv, IsTup.new _ _⟩
  exact ⟨.ref h'.objs.size, _, I2, rfl, q _ _ (I1.hok.fresh (Nat.le_refl _)) rfl⟩
theorem sqF {K : PySem.W.Frag} {H : Hp} {a : Addr} {o : Obj} {xs : List V} (h : H a = some (.frz o (.tup xs))) : SqT K H a xs := .inl (.inr ⟨o, h⟩)
/-! ### dict(t), t a tuple of pairs whose keys are tuples, all unlike -/
structure Pq where
  t : Addr
  b : Addr
  k : List Key
  v : V
theorem storedAll_nodup : ∀ {ps acc : List (List Key × Addr × Value)}, ((acc ++ ps).map (·.1)).Nodup → storedAllH acc ps = acc ++ ps
  | [], acc, _ => by simp [storedAllH]
  | p :: ps, acc, h => by
    have hn : atKey acc p.1 = none := by
      unfold atKey
      rw [List.find?_eq_none.mpr]
      · rfl
      · intro x hx
        simp only [decide_eq_true_eq]
        intro e
        rw [List.map_append, List.nodup_append] at h
        exact h.2.2 x.1 (List.mem_map.mpr ⟨x, hx, rfl⟩) p.1 (by simp) e
    have e : storedAllH acc (p :: ps) = storedAllH (storedH acc p.1 p.2.1 p.2.2) ps := rfl
    rw [e, storedH_new hn, storedAll_nodup (ps := ps) (acc := acc ++ [(p.1, p.2.1, p.2.2)]) (by simpa using h)]
    simp
def rDictT (K : PySem.W.Frag) : List V → Hp → VK → Prop := fun xs H Q => ∃ (a : Addr) (o : Obj) (ps : List Pq), xs = [.ref a] ∧ H a = some (.frz o (.tup (ps.map fun q => V.ref q.t))) ∧ Obj.dict o = none ∧
  (∀ q ∈ ps, H q.t = some (.tup [.ref q.b, q.v]) ∧ H q.b = some (.tup (q.k.map kV))) ∧ (ps.map fun q => q.k).Nodup ∧ ∀ p, H p = none → Q (.ref p) (upd H p (.dT (ps.map fun q => (q.k, q.v))))
theorem vals_ref : ∀ {ps : List Pq} {us : List Value}, Vals (ps.map fun q => V.ref q.t) us → us = ps.map fun q => Value.ref q.t
  | [], _, .nil => rfl
  | _ :: _, _, .cons r t => by rw [vals_ref t]; cases r; rfl
theorem pq_vals {X : Cx} {pins : List (Addr × Obj)} {σ : L2.St} {H : Hp} {s : Shared} (I : Inv X pins σ H s) : ∀ ps : List Pq, (∀ q ∈ ps, H q.t = some (.tup [.ref q.b, q.v])) →
    ∃ us : List Value, Paired (fun (q : Pq) (u : Value) => RelV q.v u ∧ s.heap.IsTuple q.t #[.ref q.b, u]) ps us
  | [], _ => ⟨[], .nil⟩
  | q :: r, h => by
    obtain ⟨us, hr⟩ := pq_vals I r fun z hz => h z (by simp [hz])
    obtain ⟨_, its, rv, p⟩ := (show ObjOk X.prog X.w H s.heap q.t (.tup [.ref q.b, q.v]) from I.hok _ _ (h q (by simp)))
    cases rv with
    | cons r1 rr =>
      cases rr with
      | cons r2 rr =>
        cases rr
        cases r1
        exact ⟨_ :: us, .cons ⟨r2, p⟩ hr⟩
theorem paired_getL {α β : Type} {F : α → β → Prop} : ∀ {xs : List α} {ys : List β}, Paired F xs ys → ∀ {i : Nat} {x : α}, xs[i]? = some x → ∃ y, ys[i]? = some y ∧ F x y
  | _, _, .nil, i, x, h => by simp at h
  | _, _, .cons r t, 0, x, h => by
    have e := Option.some.inj h
    subst e
    exact ⟨_, rfl, r⟩
  | _, _, .cons r t, i + 1, x, h => paired_getL t h
theorem call_dictT {X : Cx} (hc : X.calm = true) (hu : X.A.units + 64 < cLine) : CallR X (.type "dict") (rDictT X.K) := by
  intro pins s σ H xs us Q I r h
  obtain ⟨a, o, ps, rfl, ha, hod, hps, hnd, q⟩ := h
  obtain ⟨u, rfl, rx⟩ := vals1 r
  obtain rfl : u = Value.ref a := rx
  obtain ⟨ho, hz, its, rv, tp⟩ := (show ObjOk X.prog X.w H s.heap a (.frz o (.tup (ps.map fun q => V.ref q.t))) from I.hok _ _ ha)
  have eits := vals_ref rv
  subst eits
  rw [List.length_map] at hz
  obtain ⟨vs, hvs⟩ := pq_vals I ps fun z hz => (hps z hz).1
  have lvs : ps.length = vs.length := hvs.length
  have zl : (ps.zip vs).length = ps.length := by rw [List.length_zip]; omega
  have hat : ∀ {i : Nat} {z : Pq × Value}, (ps.zip vs)[i]? = some z → ps[i]? = some z.1 ∧ RelV z.1.v z.2 ∧ s.heap.IsTuple z.1.t #[.ref z.1.b, z.2] := fun {i z} hz => by
    rw [List.getElem?_zip_eq_some] at hz
    obtain ⟨y, hy, f1, f2⟩ := paired_getL hvs hz.1
    rw [hz.2] at hy
    cases hy
    exact ⟨hz.1, f1, f2⟩
  obtain ⟨oo, h1, h2, n, h3⟩ := id tp
  have eo : oo = o := by rw [ho] at h1; exact (Option.some.inj h1).symm
  subst eo
  let psV : List (Value × Value) := (ps.zip vs).map fun z => (Value.ref z.1.b, z.2)
  let Ts : Nat → Addr := fun j => match ps[j]? with
    | some z => z.t
    | none => 0
  let psK : List (List Key × Addr × Value) := (ps.zip vs).map fun z => (z.1.k, z.1.b, z.2)
  have lV : psV.length = ps.length := by show ((ps.zip vs).map _).length = _; rw [List.length_map, zl]
  have lK : psK.length = ps.length := by show ((ps.zip vs).map _).length = _; rw [List.length_map, zl]
  have ok0 : PlainSeq "tuple" s.heap a (ps.map fun q => Value.ref q.t).toArray ∧ PairItems s.heap (ps.map fun q => Value.ref q.t).toArray Ts psV := by
    refine ⟨⟨oo, n, h1, h2, hod, h3⟩, by simp [lV], fun j k v hj => ?_⟩
    have hj' : ((ps.zip vs).map fun z : Pq × Value => (Value.ref z.1.b, z.2))[j]? = some (k, v) := hj
    rw [List.getElem?_map] at hj'
    obtain ⟨z, hz1, hz2⟩ := Option.map_eq_some_iff.mp hj'
    cases hz2
    obtain ⟨g1, g2, g3⟩ := hat hz1
    have eT : Ts j = z.1.t := by show (match ps[j]? with | some z => z.t | none => 0) = _; rw [g1]
    rw [eT]
    refine ⟨?_, .inl g3⟩
    rw [List.getElem?_toArray, List.getElem?_map, g1]
    rfl
  have keyAll : ∀ h' : Heap, (∀ b o, s.heap.get? b = some o → h'.get? b = some o) → ∀ x ∈ psK, (tupleKind (mixKind X.prog X.w)).is h' x.1 x.2.1 := fun h' hk x hx => by
    obtain ⟨z, hz1, rfl⟩ := List.mem_map.mp (show x ∈ (ps.zip vs).map fun z : Pq × Value => (z.1.k, z.1.b, z.2) from hx)
    have hm := (List.of_mem_zip (show (z.1, z.2) ∈ ps.zip vs from hz1)).1
    obtain ⟨ok, its', n', k1, k2, k3, k4⟩ := key_of I.hok (hps z.1 hm).2
    exact ⟨ok, its', n', hk _ _ k1, k2, k3, k4⟩
  have eK : psK.map (·.1) = ps.map fun q => q.k := by
    show ((ps.zip vs).map _).map _ = _
    rw [List.map_map]
    have : ((fun x : List Key × Addr × Value => x.1) ∘ fun z : Pq × Value => (z.1.k, z.1.b, z.2)) = (fun q : Pq => q.k) ∘ Prod.fst := rfl
    rw [this, ← List.map_map, List.map_fst_zip (by omega)]
  refine call_dict_pairsH (knd := tupleKind (mixKind X.prog X.w)) (ps := psK) (PairArg.tuple a (ps.map fun q => Value.ref q.t).toArray Ts psV) (I.ok.hd hc) (show X.A.in1.in1.units < cLine from (by show X.A.units + 1 + 1 < cLine; omega)) ok0
    ⟨by rw [lK, lV], fun i key v hr => ?_⟩ (fun h' hk x hx => ?_) (by rw [lV]; exact hz) fun h' tk hd hk => ?_
  · have hr' : ((ps.zip vs).map fun z : Pq × Value => (Value.ref z.1.b, z.2))[i]? = some (key, v) := hr
    rw [List.getElem?_map] at hr'
    obtain ⟨z, hz1, hz2⟩ := Option.map_eq_some_iff.mp hr'
    cases hz2
    refine ⟨z.1.k, z.1.b, ?_, rfl⟩
    show ((ps.zip vs).map fun z : Pq × Value => (z.1.k, z.1.b, z.2))[i]? = _
    rw [List.getElem?_map, hz1]
    rfl
  · obtain ⟨z, hz1, rfl⟩ := List.mem_map.mp (show x ∈ (ps.zip vs).map fun z : Pq × Value => (z.1.k, z.1.b, z.2) from hx)
    have hm := (List.of_mem_zip (show (z.1, z.2) ∈ ps.zip vs from hz1)).1
    obtain ⟨ok, its', n', k1, k2, k3, k4⟩ := key_of I.hok (hps z.1 hm).2
    exact ⟨ok, its', n', hk _ _ (Nat.ne_of_lt (Heap.lt_size k1)) (fun z => nomatch z) k1, k2, k3, k4⟩
  · have hk' : ∀ b o, s.heap.get? b = some o → h'.get? b = some o := fun b o e => hk b o (fun z => nomatch z) e
    rw [storedAll_nodup (acc := []) (by rw [List.nil_append, eK]; exact hnd), List.nil_append] at hd
    obtain ⟨od, es, ep, d1, d2, d3, d4, d5, d6⟩ := hd
    have hm : (s.heap.objs.size == sysModules) = false := beq_eq_false_iff_ne.mpr (Nat.ne_of_gt I.big)
    refine ⟨.ref s.heap.objs.size, upd H s.heap.objs.size (.dT (ps.map fun q => (q.k, q.v))), I.laid (t' := tk) hk' (Nat.le_refl _) ?_, rfl, q _ (I.hok.fresh (Nat.le_refl _))⟩
    refine ⟨by rw [List.length_map]; exact hz, hm, psK, ?_, od, es, ep, d1, d2, d3, d4, d6⟩
    have key : ∀ (ps : List Pq) (vs : List Value), Paired (fun (q : Pq) (u : Value) => RelV q.v u ∧ s.heap.IsTuple q.t #[.ref q.b, u]) ps vs → (∀ q ∈ ps, H q.b = some (.tup (q.k.map kV))) →
        Paired (fun (p : List Key × V) (q : List Key × Addr × Value) => p.1 = q.1 ∧ (upd H s.heap.objs.size (.dT (ps.map fun q => (q.k, q.v)))) q.2.1 = some (.tup (p.1.map kV)) ∧ RelV p.2 q.2.2) (ps.map fun q => (q.k, q.v)) ((ps.zip vs).map fun z => (z.1.k, z.1.b, z.2)) := by
      intro ps0 vs0 hp hb
      have gen : ∀ (d : HO) (ps : List Pq) (vs : List Value), Paired (fun (q : Pq) (u : Value) => RelV q.v u ∧ s.heap.IsTuple q.t #[.ref q.b, u]) ps vs → (∀ q ∈ ps, H q.b = some (.tup (q.k.map kV))) →
          Paired (fun (p : List Key × V) (q : List Key × Addr × Value) => p.1 = q.1 ∧ (upd H s.heap.objs.size d) q.2.1 = some (.tup (p.1.map kV)) ∧ RelV p.2 q.2.2) (ps.map fun q => (q.k, q.v)) ((ps.zip vs).map fun z => (z.1.k, z.1.b, z.2)) := by
        intro d ps vs hp
        induction hp with
        | nil => intro _; exact .nil
        | @cons q u r us hq t ih =>
          intro hb
          refine .cons ⟨rfl, ?_, hq.1⟩ (ih fun z hz => hb z (by simp [hz]))
          have e := hb q (by simp)
          rw [upd_ne (ne_of_none e (I.hok.fresh (Nat.le_refl _)))]
          exact e
      exact gen _ ps0 vs0 hp hb
    exact key ps vs hvs fun q hq => (hps q hq).2
end Nf

set_option Elab.async false
set_option linter.all false
set_option maxRecDepth 100000
namespace Nf
open PySem L2
/-! ### paths are all unlike -/
theorem nod_nodup {f : Str → Prop} : ∀ {n : Nat} {s : Say} (p : List Int), Say.ok f n s → ((s.nod p).map Prod.fst).Nodup
  | 0, _, _, h => h.elim
  | n + 1, s, p, h => by
    have ho := Say.ok_parts h
    have pre : ∀ (ps : List Say) (k : Nat), (∀ q ∈ ps, Say.ok f n q) → ∀ x ∈ (ndAll (kids p k ps)).map Prod.fst, ∃ (i : Nat) (r : List Int), k ≤ i ∧ x = p ++ [(i : Int)] ++ r := by
      intro ps k hq x hx
      obtain ⟨z, hz, rfl⟩ := List.mem_map.mp hx
      unfold ndAll at hz
      obtain ⟨y, hy, hzy⟩ := List.mem_flatMap.mp hz
      obtain ⟨i, hi⟩ := List.getElem?_of_mem hy
      rw [kids_get] at hi
      obtain ⟨s', hs', rfl⟩ := Option.map_eq_some_iff.mp hi
      obtain ⟨r, hr⟩ := nod_pre _ (hq s' (List.mem_of_getElem? hs')) z hzy
      exact ⟨k + i, r, by omega, hr⟩
    have key : ∀ (ps : List Say) (k : Nat), (∀ q ∈ ps, Say.ok f n q) → ((ndAll (kids p k ps)).map Prod.fst).Nodup := by
      intro ps
      induction ps with
      | nil => intro k _; exact List.nodup_nil
      | cons s r ih =>
        intro k hq
        have e : ndAll (kids p k (s :: r)) = s.nod (p ++ [(k : Int)]) ++ ndAll (kids p (k + 1) r) := rfl
        rw [e, List.map_append, List.nodup_append]
        refine ⟨nod_nodup _ (hq s (by simp)), ih (k + 1) fun q hm => hq q (by simp [hm]), fun x hx y hy e => ?_⟩
        subst e
        obtain ⟨i, r1, hi, h1⟩ := pre r (k + 1) (fun q hm => hq q (by simp [hm])) x hy
        obtain ⟨z, hz, rfl⟩ := List.mem_map.mp hx
        obtain ⟨r2, h2⟩ := nod_pre _ (hq s (by simp)) z hz
        rw [h2] at h1
        simp at h1
        omega
    rw [nod_eq, List.map_cons, List.nodup_cons]
    refine ⟨fun hm => ?_, key s.parts 0 ho⟩
    obtain ⟨i, r, _, hr⟩ := pre s.parts 0 ho _ hm
    have := congrArg List.length hr
    simp at this
/-! ### nodes as entries of a dict -/
def pk (p : List Int) : List Key := p.map Sum.inl
theorem pk_inj {a b : List Int} (h : pk a = pk b) : a = b := by
  unfold pk at h
  exact (List.map_inj_right (fun _ _ e => Sum.inl.inj e)).mp h
theorem pk_kV (p : List Int) : (pk p).map kV = p.map V.int := by
  unfold pk
  rw [List.map_map]
  rfl
structure PqOk (H : Hp) (q : Pq) (z : Nd) : Prop where
  t : H q.t = some (.tup [.ref q.b, q.v])
  b : H q.b = some (.tup (q.k.map kV))
  k : q.k = pk z.1
  v : Is H q.v z.2.da
theorem pqs_of {H : Hp} : ∀ {xs : List V} {l : List Nd}, IsA H xs (l.map ndDa) → ∃ ps : List Pq, xs = ps.map (fun q => V.ref q.t) ∧ Paired (PqOk H) ps l
  | _, [], h => by cases h; exact ⟨[], rfl, .nil⟩
  | _, z :: l, h => by
    cases h with
    | cons a b =>
      obtain ⟨ps, rfl, hp⟩ := pqs_of (l := l) b
      obtain ⟨a', b', y, pxs, rfl, h1, h2, h3, h4⟩ := is_nd a
      refine ⟨⟨a', b', pk z.1, y⟩ :: ps, rfl, .cons ⟨h1, ?_, rfl, h4⟩ hp⟩
      rw [pk_kV, ← ints_of h3]
      exact h2
theorem pq_mem {H : Hp} : ∀ {ps : List Pq} {l : List Nd}, Paired (PqOk H) ps l → ∀ q ∈ ps, ∃ z, PqOk H q z
  | _, _, .cons a b, q, hq => by
    rcases List.mem_cons.mp hq with rfl | h
    · exact ⟨_, a⟩
    · exact pq_mem b q h
theorem pq_keys {H : Hp} : ∀ {ps : List Pq} {l : List Nd}, Paired (PqOk H) ps l → (ps.map fun q => q.k) = (l.map Prod.fst).map pk
  | _, _, .nil => rfl
  | _, _, .cons a b => by rw [List.map_cons, List.map_cons, List.map_cons, pq_keys b, a.k]
theorem pq_nodup {H : Hp} {ps : List Pq} {l : List Nd} (h : Paired (PqOk H) ps l) (hn : (l.map Prod.fst).Nodup) : (ps.map fun q => q.k).Nodup := by
  rw [pq_keys h]
  exact List.pairwise_map.mpr (hn.imp fun h e => h (pk_inj e))
theorem val_nd {H : Hp} {p : List Int} : ∀ {ps : List Pq} {l : List Nd}, Paired (PqOk H) ps l → (ndAt l p = none ∧ valV (ps.map fun q => (q.k, q.v)) (pk p) = none) ∨ ∃ s v, ndAt l p = some s ∧ valV (ps.map fun q => (q.k, q.v)) (pk p) = some v ∧ Is H v s.da
  | _, _, .nil => .inl ⟨rfl, rfl⟩
  | q :: ps, z :: l, .cons a b => by
    by_cases e : z.1 = p
    · refine .inr ⟨z.2, q.v, ?_, ?_, a.v⟩
      · simp [ndAt, e]
      · rw [List.map_cons]
        exact valV_pos (by show q.k = pk p; rw [a.k, e])
    · have e1 : ndAt (z :: l) p = ndAt l p := by simp [ndAt, e]
      have e2 : valV ((q :: ps).map fun q => (q.k, q.v)) (pk p) = valV (ps.map fun q => (q.k, q.v)) (pk p) := by
        rw [List.map_cons]
        exact valV_neg (fun h => e (pk_inj (by rw [← a.k]; exact h)))
      rw [e1, e2]
      exact val_nd b
theorem PqOk.mono {H H' : Hp} (k : TupS H H') : ∀ {ps : List Pq} {l : List Nd}, Paired (PqOk H) ps l → Paired (PqOk H') ps l
  | _, _, .nil => .nil
  | _, _, .cons a b => .cons ⟨k _ _ a.t, k _ _ a.b, a.k, a.v.mono k⟩ (PqOk.mono k b)
/-! ### the letters -/
theorem letters_codes : (Str.ofString "abcdefghijklmnopqrstuvwxyz").cps.toList = (List.range 26).map (97 + ·) := by decide +kernel
theorem letter_at {i : Int} (h0 : 0 ≤ i) (h1 : i < 26) : atI (Str.ofString "abcdefghijklmnopqrstuvwxyz").cps.toList i = some (97 + i.toNat) := by
  rw [letters_codes]
  unfold atI ixN
  rw [if_pos h0, if_pos (by simpa using h1)]
  show ((List.range 26).map (97 + ·))[i.toNat]? = _
  rw [List.getElem?_map, List.getElem?_range (by omega)]
  rfl
theorem lookup_fillOf : ∀ {fs : Fl}, (fs.map Prod.fst).Nodup → (fs.map Prod.fst).map (fillOf fs) = fs := by
  intro fs hn
  have key : ∀ (gs hs : Fl), (∀ q ∈ gs, hs.lookup q.1 = some q.2) → (gs.map Prod.fst).map (fillOf hs) = gs := by
    intro gs hs h
    induction gs with
    | nil => rfl
    | cons q r ih =>
      rw [List.map_cons, List.map_cons, ih fun z hz => h z (by simp [hz])]
      unfold fillOf
      rw [h q (by simp)]
      rfl
  refine key fs fs ?_
  clear key
  induction fs with
  | nil => intro q hq; cases hq
  | cons z r ih =>
    intro q hq
    rw [List.map_cons, List.nodup_cons] at hn
    rcases List.mem_cons.mp hq with rfl | h
    · simp [List.lookup]
    · have hne : q.1 ≠ z.1 := fun e => hn.1 (e ▸ List.mem_map.mpr ⟨q, h, rfl⟩)
      have e0 : (q.1 == z.1) = false := beq_eq_false_iff_ne.mpr hne
      obtain ⟨z1, z2⟩ := z
      simp only [List.lookup, e0]
      exact ih hn.2 q h
end Nf

set_option Elab.async false
set_option linter.all false
set_option maxRecDepth 100000
namespace Nf
open PySem PySem.Spec PyProof.Rows L2 SeqAt
theorem dict_eq_declines_str (l : Addr) (o : Obj) (b : Str) (u : Tok) :
    Meets (Builtin.«dict.__eq__» ⟨[.ref l, .str b u], []⟩) (fun _ R s => (s.heap.get? l = some o ∧ o.cls = .type "dict") ∧ R (.ok (.ret .notImplemented)) s) :=
  .of_wp fun prog w A R s h => by
    obtain ⟨hp, g, d, tk, os⟩ := s
    obtain ⟨⟨hl, hc⟩, h⟩ := h
    have f1 := F.sub_str_dict
    wp_walk using wpAny_load hl
    exact ⟨_, rfl, h⟩
theorem str_eq_declines_dict (b : Str) (u : Tok) (l : Addr) (o : Obj) :
    Meets (Builtin.«str.__eq__» ⟨[.str b u, .ref l], []⟩) (fun _ R s => (s.heap.get? l = some o ∧ o.cls = .type "dict" ∧ ∃ es ep, o.data = .dict es ep) ∧ R (.ok (.ret .notImplemented)) s) :=
  .of_wp fun prog w A R s h => by
    obtain ⟨hp, g, d, tk, os⟩ := s
    obtain ⟨⟨hl, hc, es, ep, hd⟩, h⟩ := h
    obtain ⟨cls, dd, data, sl⟩ := o
    simp only at hc hd
    subst hc hd
    wp_walk using wpAny_loadPart' hl, wpAny_load hl
    exact ⟨_, rfl, h⟩
theorem rc_dict_str {A : Around} {s : Shared} {l : Addr} {o : Obj} (b : Str) (u : Tok) (ho : s.heap.get? l = some o) (hc : o.cls = .type "dict") (hd : ∃ es ep, o.data = .dict es ep) (hu : A.units < cLine) : RcAt A s (.ref l) (.str b u) false := fun prog w E Q h =>
  rc_eq_decline_or (k := false) ⟨_, ho, hc⟩ (typeIs_str s b u) (by decide) F.sub_str_dict F.slot_dict_eq F.slot_str_eq_refl
    (fun _ hq => call_meets F.slot_dict_eq ⟨_, ho, hc⟩ F.entry_dict_eq (F.args_dict_eq_2 _ _) (dict_eq_declines_str l o b u) ⟨⟨ho, hc⟩, hq⟩)
    (fun _ hq => call_meets F.slot_str_eq_refl (typeIs_str s b u) F.entry_str_eq (F.args_str_eq_2 _ _) (str_eq_declines_dict b u l o) ⟨⟨ho, hc, hd⟩, hq⟩)
    (fun _ hq => wpAny_of_eq (rfl : isSame (.ref l) (.str b u) = pure false) hq) (.inr hu) h
/-- whatever is no text -/
def NoTxt (K : PySem.W.Frag) (H : Hp) (x : V) : Prop := x = .non ∨ (∃ b, x = .bl b) ∨ (∃ i, x = .int i) ∨ ∃ a, x = .ref a ∧ ((∃ xs, SqT K H a xs) ∨ (∃ xs, SqL K H a xs) ∨ ∃ kvs, H a = some (.dK kvs))
def rEqS (K : PySem.W.Frag) : R2 := fun x y H Q => ∃ z, y = .str z ∧ ((∃ z', x = .str z' ∧ Q (.bl (decide (z' = z))) H) ∨ (NoTxt K H x ∧ Q (.bl false) H))
theorem op_eqS {X : Cx} (hu : X.A.units < cLine) : OpR X (compareOp .Eq) (rEqS X.K) := by
  intro pins s σ H x y v u Q I rx ry h
  obtain ⟨z, rfl, h⟩ := h
  obtain ⟨t, rfl⟩ := ry
  rcases h with ⟨z', rfl, q⟩ | ⟨h, q⟩
  · exact op_eq pins s σ H (.str z') (.str z) v _ Q I rx ⟨t, rfl⟩ ⟨rfl, by rw [show decide (V.str z' = V.str z) = decide (z' = z) by simp]; exact q⟩
  · rcases h with rfl | ⟨b, rfl⟩ | ⟨i, rfl⟩ | ⟨a, rfl, h⟩
    · cases rx
      exact RcAt.none_str z t X.prog X.w _ _ ⟨.bl false, H, I, rfl, q⟩
    · cases rx
      exact RcAt.bool_str b z t X.prog X.w _ _ ⟨.bl false, H, I, rfl, q⟩
    · obtain ⟨t', rfl⟩ := rx
      exact RcAt.int_str i t' z t X.prog X.w _ _ ⟨.bl false, H, I, rfl, q⟩
    · cases rx
      rcases h with ⟨xs, h⟩ | ⟨xs, h⟩ | ⟨kvs, h⟩
      · obtain ⟨its, rv, pl, _⟩ := I.tuple h
        exact RcAt.tuple_str z t pl hu X.prog X.w _ _ ⟨.bl false, H, I, rfl, q⟩
      · obtain ⟨its, rv, pl, _⟩ := I.list h
        exact RcAt.list_str z t pl.isList hu X.prog X.w _ _ ⟨.bl false, H, I, rfl, q⟩
      · obtain ⟨_, lo, vs, rk, o, es, ep, ho, hx, hdt, _⟩ := (show ObjOk X.prog X.w H s.heap a (.dK kvs) from I.hok a _ h)
        exact rc_dict_str z t ho hx.1 ⟨es, ep, hdt⟩ hu X.prog X.w _ _ ⟨.bl false, H, I, rfl, q⟩
/-! ### xs == [] -/
def rEqNil (K : PySem.W.Frag) : R2 := fun x y H Q => ∃ a b xs, x = .ref a ∧ y = .ref b ∧ SqL K H a xs ∧ SqL K H b [] ∧ Q (.bl xs.isEmpty) H
theorem op_eq_nil {X : Cx} (hu : X.A.units < cLine) : OpR X (compareOp .Eq) (rEqNil X.K) := by
  intro pins s σ H x y v u Q I rx ry h
  obtain ⟨a, b, xs, rfl, rfl, ha, hb, q⟩ := h
  cases rx
  cases ry
  obtain ⟨i1, r1, p1, _⟩ := I.list ha
  obtain ⟨i2, r2, p2, _⟩ := I.list hb
  cases r2
  cases r1 with
  | nil => exact SeqAt.RcAt.lists (e := fun _ => true) p1.isList p2.isList rfl hu (fun j h1 _ => absurd h1 (by simp)) X.prog X.w _ _ ⟨.bl true, H, I, rfl, q⟩
  | cons r rr => exact SeqAt.RcAt.lists_lengths p1.isList p2.isList (by simp) hu X.prog X.w _ _ ⟨.bl false, H, I, rfl, q⟩
end Nf

set_option Elab.async false
set_option linter.all false
set_option maxRecDepth 100000
namespace Nf
open PySem L2
/-! ### xs == () -/
def rEqNilT (K : PySem.W.Frag) : R2 := fun x y H Q => ∃ a b xs, x = .ref a ∧ y = .ref b ∧ SqT K H a xs ∧ SqT K H b [] ∧ Q (.bl xs.isEmpty) H
theorem op_eq_nilT {X : Cx} (hu : X.A.units < cLine) : OpR X (compareOp .Eq) (rEqNilT X.K) := by
  intro pins s σ H x y v u Q I rx ry h
  obtain ⟨a, b, xs, rfl, rfl, ha, hb, q⟩ := h
  cases rx
  cases ry
  obtain ⟨i1, r1, p1, _⟩ := I.tuple ha
  obtain ⟨i2, r2, p2, _⟩ := I.tuple hb
  cases r2
  cases r1 with
  | nil => exact SeqAt.RcAt.tuples (e := fun _ => true) p1 p2 hu (fun j h1 _ => absurd h1 (by simp)) X.prog X.w _ _ ⟨.bl true, H, I, rfl, q⟩
  | cons r rr =>
    refine SeqAt.RcAt.tuples (e := fun _ => true) p1 p2 hu (fun j _ h2 => absurd h2 (by simp)) X.prog X.w _ _ ⟨.bl false, H, I, ?_, q⟩
    show _ = _
    simp
def rNeNilT (K : PySem.W.Frag) : R2 := fun x y H Q => ∃ a b xs, x = .ref a ∧ y = .ref b ∧ SqT K H a xs ∧ SqT K H b [] ∧ Q (.bl (!xs.isEmpty)) H
theorem op_ne_nilT {X : Cx} (hu : X.A.units < cLine) : OpR X (compareOp .NotEq) (rNeNilT X.K) := by
  intro pins s σ H x y v u Q I rx ry h
  obtain ⟨a, b, xs, rfl, rfl, ha, hb, q⟩ := h
  cases rx
  cases ry
  obtain ⟨i1, r1, p1, _⟩ := I.tuple ha
  obtain ⟨i2, r2, p2, _⟩ := I.tuple hb
  cases r2
  cases r1 with
  | nil => exact SeqAt.RcNeAt.tuples (e := fun _ => true) p1 p2 hu (fun j h1 _ => absurd h1 (by simp)) X.prog X.w _ _ ⟨.bl false, H, I, rfl, q⟩
  | cons r rr =>
    refine SeqAt.RcNeAt.tuples (e := fun _ => true) p1 p2 hu (fun j _ h2 => absurd h2 (by simp)) X.prog X.w _ _ ⟨.bl true, H, I, ?_, q⟩
    show _ = _
    simp
/-! ### data of any kind -/
inductive Dx where
  | non
  | bl (b : Bool)
  | int (i : Int)
  | str (z : Str)
  | tup (ds : List Dx)
  | lst
  | dic
mutual
inductive IsX (H : Hp) : V → Dx → Prop where
  | non : IsX H .non .non
  | bl (b : Bool) : IsX H (.bl b) (.bl b)
  | int (i : Int) : IsX H (.int i) (.int i)
  | str (z : Str) (l : z.length ≤ 1000) : IsX H (.str z) (.str z)
  | tup {a : Addr} {xs : List V} {ds : List Dx} (h : H a = some (.tup xs)) (hs : IsXA H xs ds) : IsX H (.ref a) (.tup ds)
  | lst {a : Addr} {xs : List V} (h : H a = some (.lst xs)) : IsX H (.ref a) .lst
  | dic {a : Addr} {kvs : List (Key × V)} (h : H a = some (.dK kvs)) : IsX H (.ref a) .dic
inductive IsXA (H : Hp) : List V → List Dx → Prop where
  | nil : IsXA H [] []
  | cons {x : V} {d : Dx} {xs : List V} {ds : List Dx} (h : IsX H x d) (hs : IsXA H xs ds) : IsXA H (x :: xs) (d :: ds)
end
/-- what data need to stay: tuples as they are, lists lists, dicts dicts -/
def KindS (H H' : Hp) : Prop := ∀ a, (∀ xs, H a = some (.tup xs) → H' a = some (.tup xs)) ∧ (∀ xs, H a = some (.lst xs) → ∃ ys, H' a = some (.lst ys)) ∧ ∀ kvs, H a = some (.dK kvs) → ∃ kvs', H' a = some (.dK kvs')
theorem KindS.of_same {H H' : Hp} (s : Same H H') : KindS H H' := fun a => ⟨fun xs h => s _ _ h, fun xs h => ⟨xs, s _ _ h⟩, fun kvs h => ⟨kvs, s _ _ h⟩⟩
theorem KindS.trans {H H1 H2 : Hp} (p : KindS H H1) (q : KindS H1 H2) : KindS H H2 := fun a =>
  ⟨fun xs h => (q a).1 _ ((p a).1 _ h), fun xs h => (let ⟨ys, e⟩ := (p a).2.1 _ h; (q a).2.1 _ e), fun kvs h => (let ⟨ys, e⟩ := (p a).2.2 _ h; (q a).2.2 _ e)⟩
/-- a list put anew -/
theorem KindS.mutL {H H' : Hp} {p : Addr} {us vs : List V} (k : KindS H H') (h : H' p = some (.lst us)) : KindS H (upd H' p (.lst vs)) := by
  refine k.trans fun a => ?_
  by_cases e : a = p
  · subst e
    refine ⟨fun xs z => ?_, fun xs z => ⟨vs, upd_same⟩, fun kvs z => ?_⟩
    · rw [h] at z; cases z
    · rw [h] at z; cases z
  · rw [upd_ne e]
    exact ⟨fun xs z => z, fun xs z => ⟨xs, z⟩, fun kvs z => ⟨kvs, z⟩⟩
mutual
theorem IsX.mono {H H' : Hp} (k : KindS H H') : ∀ {v : V} {d : Dx}, IsX H v d → IsX H' v d
  | _, _, .non => .non
  | _, _, .bl b => .bl b
  | _, _, .int i => .int i
  | _, _, .str z l => .str z l
  | _, _, .tup h hs => .tup ((k _).1 _ h) (IsXA.mono k hs)
  | _, _, .lst h => let ⟨_, e⟩ := (k _).2.1 _ h; .lst e
  | _, _, .dic h => let ⟨_, e⟩ := (k _).2.2 _ h; .dic e
theorem IsXA.mono {H H' : Hp} (k : KindS H H') : ∀ {xs : List V} {ds : List Dx}, IsXA H xs ds → IsXA H' xs ds
  | _, _, .nil => .nil
  | _, _, .cons h hs => .cons (IsX.mono k h) (IsXA.mono k hs)
end
theorem IsXA.len {H : Hp} : ∀ {xs : List V} {ds : List Dx}, IsXA H xs ds → xs.length = ds.length
  | _, _, .nil => rfl
  | _, _, .cons _ hs => by rw [List.length_cons, List.length_cons, hs.len]
theorem IsXA.get {H : Hp} : ∀ {xs : List V} {ds : List Dx}, IsXA H xs ds → ∀ {i : Nat} {x : V}, xs[i]? = some x → ∃ d, ds[i]? = some d ∧ IsX H x d
  | _, _, .nil, i, x, h => by simp at h
  | _, _, .cons h hs, 0, x, e => by
    cases (show some _ = some x from e)
    exact ⟨_, rfl, h⟩
  | _, _, .cons h hs, i + 1, x, e => hs.get (i := i) e
theorem IsXA.app {H : Hp} : ∀ {xs ys : List V} {ds es : List Dx}, IsXA H xs ds → IsXA H ys es → IsXA H (xs ++ ys) (ds ++ es)
  | _, _, _, _, .nil, h => h
  | _, _, _, _, .cons h hs, g => .cons h (IsXA.app hs g)
end Nf

set_option Elab.async false
set_option linter.all false
set_option maxRecDepth 100000
namespace Nf
open PySem PySem.Spec PyProof.Rows L2
theorem ext_tup {l b : Addr} {ys zs : Array Value} {n m : Nat} {dd : Option Addr} {sl : Array (Option Value)} (h0 : ¬(!ys.isEmpty && Builtin.List.listTooLong (ys.size + zs.size)) = true) (h1 : ys.size ≤ sizeLine) (h2 : ys.size + zs.size ≤ sizeLine + 1) :
    Meets (Builtin.«list.extend» ⟨[.ref l, .ref b], []⟩) (fun _ R s => s.heap.get? l = some { cls := .type "list", data := .seq ys n } ∧
      s.heap.get? b = some { cls := .type "tuple", dict := dd, data := .seq zs m, slots := sl } ∧ R (.ok (.ret Value.none)) { s with heap := s.heap.update l (Obj.mapSeq fun x => x ++ zs), toks := s.toks }) :=
  .of_wp fun prog w A R s h => by
    obtain ⟨hp, g, d, tk, os⟩ := s
    obtain ⟨hl, hb, h⟩ := h
    have g1 := F.sub_tuple_list
    have g2 := F.sub_tuple_tuple
    have g3 := F.sub_list_list
    have hz' : (ys ++ zs).size ≤ sizeLine + 1 := by rw [Array.size_append]; exact h2
    wp_walk using (wpAny_updateSeq hl rfl (hz := h1) (_hz' := hz')), wpAny_loadPart' hl, wpAny_loadPart' hb
    exact ⟨_, rfl, h⟩
def rExtendT : V → List V → Hp → VK → Prop := fun x vs H Q => ∃ l b xs zs, x = .ref l ∧ vs = [.ref b] ∧ H l = some (.lst xs) ∧ H b = some (.tup zs) ∧ xs.length + zs.length ≤ sizeLine ∧ Q .non (upd H l (.lst (xs ++ zs)))
theorem mt_extendT {X : Cx} : MtM X "list.extend" rExtendT := by
  intro pins s σ H x vs v us Q I rx rv h
  obtain ⟨l, b, xs, zs, rfl, rfl, hH, hB, hz, q⟩ := h
  cases rx
  obtain ⟨u, rfl, ru⟩ := rv.one
  cases ru
  obtain ⟨z, its, n, r, hl, e⟩ := I.lstM hH
  obtain ⟨hz2, its2, r2, p2⟩ := (show ObjOk X.prog X.w H s.heap b (.tup zs) from I.hok b _ hB)
  obtain ⟨⟨cls, dd, data, sl⟩, e2, hc, m, hd⟩ := p2
  simp only at hc hd
  subst hc hd
  have hs : its.toArray.size + its2.toArray.size ≤ sizeLine := by rw [List.size_toArray, List.size_toArray, ← hl, ← r2.length]; exact hz
  have long : ¬ (!its.toArray.isEmpty && Builtin.List.listTooLong (its.toArray.size + its2.toArray.size)) = true := by
    rw [notLongL hs, Bool.and_false]
    decide
  refine call_meets F.slot_list_extend ⟨_, e, rfl⟩ F.entry_list_extend (F.args_list_extend_2 _ _) (ext_tup long (by rw [List.size_toArray]; omega) (by omega)) ⟨e, e2, ?_⟩
  exact ⟨.non, _, I.lset (its' := its ++ its2) hH e (by simp) (r.append r2) (by rw [List.length_append]; exact hz), rfl, q⟩
end Nf

set_option Elab.async false
set_option linter.all false
set_option maxRecDepth 100000
namespace Nf
open PySem L2
/-- a list of truths, one for each item -/
theorem lc_bools {J : It} {G : Hp → Prop} {xs : List V} (W : Walk J xs.length G (YAt xs)) {bs : List Bool} {H1 : Hp} {Z : Addr} {i0 : Nat} {te : TE} {vs : List Nat} {σ : L2.St} {Qd : Hp → Prop}
    (hl : xs.length = bs.length) (hG : ∀ H, Same H1 H → G H) (hlen : xs.length ≤ 90000) (hZ : H1 Z = none)
    (hw : ∀ x : V, wipe ((wipe σ vs).set i0 (some x)) vs = wipe σ vs)
    (turn : ∀ (i : Nat) (x : V) (b : Bool) (H2 : Hp) (Q : VK), xs[i]? = some x → bs[i]? = some b → Same H1 H2 → (∀ H4, Same H2 H4 → Q (.bl b) H4) → te ((wipe σ vs).set i0 (some x)) H2 Q)
    (done : ∀ (H2 : Hp), Same H1 H2 → H2 Z = some (.lst (bs.map V.bl)) → Qd H2) :
    ∃ W : Nat → Nat → Hp → Prop, (∃ m, W 0 m (upd H1 Z (.lst []))) ∧ ∀ i m H, W i m H →
      (J.stop i H ∧ Qd H) ∨ (J.go i H ∧ ∃ Nx : Hp → Prop, (∀ H', Nx H' → ∃ m', m' < m ∧ W (i + 1) m' H') ∧ ∀ x H', J.yld i H x H' → gName i0 x (wipe σ vs) H' fun σ2 H2 => wipe σ2 vs = wipe σ vs ∧ tYes σ2 H2 fun b H3 =>
        if b = true then te σ2 H3 fun y H4 => ∃ acc, H4 Z = some (.lst acc) ∧ acc.length < sizeLine ∧ Nx (upd H4 Z (.lst (acc ++ [y]))) else Nx H3) := by
  refine lc_it W (fun i H' => Same H1 H' ∧ H' Z = some (.lst ((bs.take i).map V.bl))) ?_ ?_ ?_ ?_
  · exact ⟨same_new hZ _, upd_same⟩
  · rintro i H2 _ ⟨h, _⟩
    exact hG H2 h
  · rintro i x H2 H3 hi ⟨S2, hZ2⟩ ⟨rfl, hx⟩
    have hib : i < bs.length := by omega
    refine ⟨hw x, yes_if ?_⟩
    refine turn i x bs[i] _ _ hx (List.getElem?_eq_getElem hib) S2 fun H4 S4 => ?_
    refine ⟨_, S4 _ _ hZ2, sz5' (by rw [List.length_map, List.length_take]; omega), (S2.trans S4).mutN hZ, ?_⟩
    rw [upd_same, List.take_add_one, List.getElem?_eq_getElem hib, List.map_append]
    rfl
  · rintro H2 ⟨S2, hZ2⟩
    rw [hl, List.take_length] at hZ2
    exact done H2 S2 hZ2
end Nf

set_option Elab.async false
set_option linter.all false
set_option maxRecDepth 100000
set_option maxHeartbeats 4000000
namespace Nf
open PySem PySem.Spec PyProof.Rows HT L2
/-! ### t[::-1] of a tuple -/
theorem adj_rev (n : Nat) : Builtin.Slice.sliceAdjust none none (-1) (n : Int) = ((n : Int) - 1, -1) := by
  unfold Builtin.Slice.sliceAdjust
  simp
theorem plc_rev (n : Nat) : Builtin.Slice.slicePlaces ((n : Int) - 1) (-1) (-1) = n := by
  unfold Builtin.Slice.slicePlaces
  have h1 : ¬ ((-1 : Int) > 0) := by omega
  have h2 : ((n : Int) - 1 - -1 - 1) / (- -1) = (n : Int) - 1 := by
    rw [show (- -1 : Int) = 1 by decide, Int.ediv_one]
    omega
  simp only [h1, if_false, h2]
  split <;> omega
theorem pick_rev (xs : Array Value) : ((List.range xs.size).filterMap fun (m : Nat) => xs[((xs.size : Int) - 1 + (m : Int) * -1).toNat]?).toArray = xs.toList.reverse.toArray := by
  have e : (fun (m : Nat) => xs[((xs.size : Int) - 1 + (m : Int) * -1).toNat]?) = (fun j => xs[j]?) ∘ fun m => xs.size - 1 - m := by
    funext m
    show xs[((xs.size : Int) - 1 + (m : Int) * -1).toNat]? = xs[xs.size - 1 - m]?
    have : ((xs.size : Int) - 1 + (m : Int) * -1).toNat = xs.size - 1 - m := by omega
    rw [this]
  rw [e, ← List.filterMap_map, PySem.W.krv_range, List.filterMap_reverse, PySem.W.krv_all]
section
variable {prog : Program} {w : World} {A : Around} {E : Value → Shared → Prop} {s : Shared}
theorem applied_rev {sl : Addr} {vl vu vs : Value} {n : Nat} {Q : Int × Int × Nat → Shared → Prop} (hs : s.heap.IsSliceOf sl vl vu vs) (pl : IsPart vl none) (pu : IsPart vu none) (ps : IsPart vs (some (-1)))
    (h : Q ((n : Int) - 1, -1, n) s) : wpAny (model prog w) A (Builtin.Slice.sliceApplied (.ref sl) (pure (n : Int))) Q E s := by
  obtain ⟨os, hos, hcs, hds⟩ := id hs
  unfold Builtin.Slice.sliceApplied Builtin.Slice.sliceFields
  refine wpAny_bind (wpAny_bind (wpAny_field hos hds (x := vl) rfl (wpAny_bind (wpAny_field hos hds (x := vu) rfl (wpAny_bind (wpAny_field hos hds (x := vs) rfl (wpAny_pure ?_)))))))
  refine wpAny_bind (slicePart_ ps ?_)
  show wpAny _ _ (if ((-1 : Int) == 0) = true then _ else _) _ _ s
  rw [if_neg (by decide)]
  refine wpAny_bind (slicePart_ pl (wpAny_bind (slicePart_ pu (wpAny_bind (wpAny_pure ?_)))))
  show wpAny _ _ (match Builtin.Slice.sliceAdjust none none (-1) (n : Int) with | (lo, hi) => pure (lo, (-1 : Int), Builtin.Slice.slicePlaces lo hi (-1))) _ _ s
  rw [adj_rev n]
  show wpAny _ _ (pure ((n : Int) - 1, (-1 : Int), Builtin.Slice.slicePlaces ((n : Int) - 1) (-1) (-1))) _ _ s
  rw [plc_rev]
  exact wpAny_pure h
theorem item_rev {t sl : Addr} {items : Array Value} {vl vu vs : Value} {Q : Value → Shared → Prop} (ht : IsTup s.heap t items) (hs : s.heap.IsSliceOf sl vl vu vs) (pl : IsPart vl none) (pu : IsPart vu none) (ps : IsPart vs (some (-1)))
    (h : Q (.ref s.heap.objs.size) { s with heap := s.heap.push { cls := .type "tuple", data := .seq items.toList.reverse.toArray } })
    (hsz : items.size ≤ sizeLine) : wpAny (model prog w) A (getItem (.ref t) (.ref sl)) Q E s := by
  have hok : sizeOk (.seq items.toList.reverse.toArray) := by
    show items.toList.reverse.toArray.size ≤ sizeLine
    rw [List.size_toArray, List.length_reverse, Array.length_toList]
    exact hsz
  have hT : s.TypeIs (.ref sl) "slice" := by obtain ⟨os, hos, hcs, hds⟩ := id hs; exact ⟨os, hos, hcs⟩
  unfold getItem
  (try with_reducible refine wpAny_holding ?_); (first | refine wpAny_bind (wpAny_pure ?_) | skip)
  refine wpAny_bind (wpAny_sequenceKey ht.typeIs (by decide) (wpAny_bind (wpAny_callSpecial?_slot (name := Str.ofString "__getitem__") ht.typeIs PyProof.Rows.slot_tuple_getitem (wpAny_call_entry PyProof.Rows.slot_tuple_getitem ht.typeIs entry_tuple_getitem ?_ (args_tuple_getitem _ _)))))
  show wpAny _ _ (Builtin.Tuple.tupleItemsOf (.ref t) >>= _) _ _ s; refine wpAny_bind (tupleItemsOf_ ht (wpAny_bind (wpAny_typeOf hT ?_)))
  rw [if_pos (by decide)]
  refine wpAny_bind (applied_rev hs pl pu ps ?_)
  have hno : ¬ ((((items.size : Int) - 1) == 0 && (-1 : Int) == 1 && items.size == items.size) = true) := by simp
  show wpAny _ _ (if (((items.size : Int) - 1) == 0 && (-1 : Int) == 1 && items.size == items.size) = true then _ else _) _ _ s
  rw [if_neg hno, pick_rev]
  first
    | exact wpAny_bind (m := Builtin.Tuple.tupleExact _) (wpAny_newObj_type (wpAny_pure ⟨_, rfl, wpAny_pure h⟩) hok)
    | exact wpAny_bind (m := Builtin.Tuple.tupleExact _) (wpAny_newObj_type (wpAny_bind (wpAny_pure (wpAny_pure ⟨_, rfl, wpAny_pure h⟩))) hok)
    | exact wpAny_bind (wpAny_bind (m := Builtin.Tuple.tupleExact _) (wpAny_newObj_type (wpAny_pure (wpAny_pure ⟨_, rfl, wpAny_pure h⟩)) hok))
    | exact wpAny_bind (wpAny_bind (m := Builtin.Tuple.tupleExact _) (wpAny_newObj_type (wpAny_pure ⟨_, rfl, wpAny_pure h⟩) hok))
end
section
variable {X : Cx}
def tRevT (K : PySem.W.Frag) (te : TE) : TE := fun σ H Q => te σ H fun x H1 => ∃ a xs, x = .ref a ∧ SqT K H1 a xs ∧ ∀ p, H1 p = none → Q (.ref p) (upd H1 p (.tup xs.reverse))
theorem pe_revT {e : Expr} {te : TE} {k : Nat} {p1 p2 p3 pos : Pos} (he : PE X e te) : PE X (.Subscript e (.Slice none none (some (.UnaryOp .USub (.Constant (.int 1) k p1) p2)) p3) pos) (tRevT X.K te) := by
  refine ⟨fun pins s σ H Q I h => Subscript_ (thn (he.run pins s σ H _ I h) fun v s1 ⟨x, H1, I1, r1, a, xs, ex, hx, q⟩ => ?_)⟩
  subst ex; cases r1
  have hst : PO X (some (.UnaryOp .USub (.Constant (.int 1) k p1) p2)) (tPart (tUn (rU fun i => .int (-i)) (tC (.int 1)))) := (po_some (pe_un un_neg pe_int))
  refine wpAny_Slice (thn (po_none.run pins s1 σ H1 (fun o H2 => o = none ∧ H2 = H1) I1 ⟨rfl, rfl⟩) fun vl s2 ⟨l, H2, I2, pl, el, e2⟩ => thn (po_none.run pins s2 σ H2 (fun o H3 => o = none ∧ H3 = H2) I2 ⟨rfl, rfl⟩) fun vu s3 ⟨u, H3, I3, pu, eu, e3⟩ => ?_)
  subst el e2; subst eu e3
  refine thn (hst.run pins s3 σ _ (fun o H4 => o = some (-1) ∧ H4 = H3) I3 ⟨1, rfl, -1, rfl, rfl, rfl⟩) (fun vs s4 ⟨o, H4, I4, ps, eo, e4⟩ => ?_)
  subst eo e4
  have I5 : Inv X pins σ H4 { s4 with heap := s4.heap.push { cls := .type "slice", data := .fields #[vl, vu, vs] } } := (I4.kept (t' := s4.toks) fun b ob q => Heap.get?_push_of_some _ q)
  obtain ⟨its, r, ht, hz⟩ := I5.tuple hx
  have hlen := r.length
  show wpAny (model X.prog X.w) X.A (subscriptTail e (.Slice none none (some (.UnaryOp .USub (.Constant (.int 1) k p1) p2)) p3) (.ref a) (.ref s4.heap.objs.size)) (EP X pins σ Q) X.xe ({ s4 with heap := s4.heap.push { cls := .type "slice", data := .fields #[vl, vu, vs] } })
  refine tail_any (ops := [.ref a, .ref s4.heap.objs.size]) ht.typeIs (PyProof.Rows.slot_tuple_getitem.lookup) ?_ (by with_unfolding_all rfl)
  refine item_rev ht (Heap.IsSliceOf.new _ vl vu vs) pl pu ps ?_ (by rw [List.size_toArray]; omega)
  refine ⟨.ref _, _, I5.laid (t' := s4.toks) (o := .tup xs.reverse) (fun b ob q => Heap.get?_push_of_some _ q) (Nat.le_refl _) ?_, rfl, q _ (I5.hok.fresh (Nat.le_refl _))⟩
  exact ⟨by rw [List.length_reverse]; exact hz, _, r.reverse, IsTup.new _ _⟩
end
end Nf

set_option Elab.async false
set_option linter.all false
set_option maxRecDepth 100000
namespace Nf
open PySem PySem.Spec PyProof.Rows L2 He
/-! ### the head's facts with one more test of the written part -/
abbrev AlB : Type := AlD × Bool
def obsB (n : Nat) (fa : List Fa) (fn : List DefD) (ex : PySem.W.Frag → Bool) (g : Addr → Option Obj) : AlB := (obsD fa fn (frG g (asD g n)), ex (frG g (asD g n)))
def hookB (n : Nat) (fa : List Fa) (fn : List DefD) (ex : PySem.W.Frag → Bool) : PySem.W.Hook where
  α := AlB
  obs := fun s => obsB n fa fn ex s.heap.get?
  val := fun _ => (valD fn, true)
  says := fun _ h => ∃ K : PySem.W.Frag, K.In h ∧ (SaysD fa fn K ∧ ex K = true)
  of := fun _ _ e => ⟨_, frG_in, congrArg Prod.fst e, congrArg Prod.snd e⟩
  keeps := fun _ _ _ y k => (let ⟨K, hK, c⟩ := y; ⟨K, PySem.W.Frag.In.keeps hK k, c⟩)
theorem obsB_eq {n : Nat} {fa : List Fa} {fn : List DefD} {ex : PySem.W.Frag → Bool} {g : Addr → Option Obj} {s : Shared} (h : ∀ a, g a = s.heap.get? a) : obsB n fa fn ex g = (hookB n fa fn ex).obs s := by
  have e : g = s.heap.get? := funext h
  subst e
  rfl
end Nf

set_option Elab.async false
set_option linter.all false
set_option maxRecDepth 100000
namespace Nf
open PySem L2
def top (i : Nat) : Stmt := PySem.Challenge.pw_needfill_k01_words_and_sayings.main.body.getD i (.Pass ⟨0, 0, 0, 0⟩)
abbrev FnP (K : PySem.W.Frag) (x : Str) (st : Stmt) (f : Addr) (fd : FuncData) : Prop := FunD K x x (defArgs st) (defBody st) (defScope st) [] [] f fd
/-- a def that stands where it is called -/
structure Cal (K : PySem.W.Frag) (mg : Str → Option Value) (x : Str) (st : Stmt) (ps : List Str) (f : Addr) (fd : FuncData) : Prop where
  F : FnP K x st f fd
  m : mg x = some (.ref f)
  b : Binds K fd ps []
/-- the built-ins' names are free -/
structure Bt (mg : Str → Option Value) : Prop where
  t_len : mg "len" = none
  t_abs : mg "abs" = none
  t_range : mg "range" = none
  t_zip : mg "zip" = none
  t_isinstance : mg "isinstance" = none
  t_all : mg "all" = none
  t_tuple : mg "tuple" = none
  t_str : mg "str" = none
  t_int : mg "int" = none
  t_bool : mg "bool" = none
  t_enumerate : mg "enumerate" = none
  t_list : mg "list" = none
  t_dict : mg "dict" = none
  t_any : mg "any" = none
section
variable {P : Program} {w : World} {K : PySem.W.Frag} {mg : Str → Option Value} {base : Heap} {f fn : Addr} {fd fnd : FuncData}
/-! ### the deck made -/
abbrev s_deck : Stmt := top 20
abbrev N_deck : List Str := ["_law_script", "_law_digits", "_law_cells", "_law_cell"]
abbrev P_deck : List Str := ["_law_script"]
theorem sc_deck : FnScope N_deck P_deck (defScope s_deck) := ⟨rfl, rfl, rfl, by decide +kernel, rfl, by decide +kernel, by decide +kernel⟩
def spDeck (K : PySem.W.Frag) : Sp := fun vs H Q _ => ∃ (a : Addr) (ns : List Int), vs = [.ref a] ∧ SqL K H a (ns.map V.int) ∧ ns.length ≤ 63 ∧
  ∀ d g c H', Deck H' d g c 0 → Same H H' → H d = none → H g = none → H c = none → Q (.ref d) H'
theorem ok_deck (T : Bt mg) (C_deck : Cal K mg "_law_deck" s_deck P_deck f fd) : FnOk P w K mg base CX0 1 f fd P_deck (spDeck K) := by
  refine C_deck.F.ok sc_deck (fun vs H Q E h => ?_) (fun cdv A outer s H vs Q E hr h => ?_)
  · obtain ⟨a, ns, rfl, _⟩ := h
    rfl
  obtain ⟨a, ns, rfl, hS, h63, q⟩ := h
  refine ⟨_, PSs.nox (pss_cons (ps_set (i := 1) sc_deck.nd rfl (Or.inl rfl) (pe_lst pa_nil))
    (pss_cons (ps_set (i := 2) sc_deck.nd rfl (Or.inl rfl) (pe_lst (pa_cons (pe_callB call_len_seq (by rfl) T.t_len (by decide +kernel) (pa_cons (pv 0) pa_nil)) pa_nil)))
    (pss_cons (ps_for PassesOwn.never (by rfl) (pi_list (pe_slice sl_list (pv 0) po_none (po_some pe_int))) (pg_name (i := 3) sc_deck.nd rfl (Or.inl rfl)) (pss_cons (ps_set (i := 3) sc_deck.nd rfl (Or.inl rfl) (pe_callB call_abs (by rfl) T.t_abs (by decide +kernel) (pa_cons (pv 3) pa_nil)))
    (pss_cons (ps_expr (pe_bm PySem.F.plainAttrs_list PySem.F.slot_list_append PySem.F.type_list_append mt_append (pv 2) (pa_cons (pe_op op_mod (pv 3) pe_int) pa_nil)))
    (pss_one (ps_while PassesOwn.never (PW.pt (pw_and (pt_cmpR op_ge (pv 3) (pe_op op_pow pe_int pe_int) (nomark _)) (pw_and1 (pt_cmpR op_lt (pe_callB call_len_seq (by rfl) T.t_len (by decide +kernel) (pa_cons (pv 1) pa_nil)) pe_int (nomark _))))) (pss_cons (ps_expr (pe_bm PySem.F.plainAttrs_list PySem.F.slot_list_append PySem.F.type_list_append mt_append (pv 1) (pa_cons (pe_op op_mod (pv 3) pe_int) pa_nil)))
    (pss_one (ps_set (i := 3) sc_deck.nd rfl (Or.inl rfl) (pe_op op_fdivW (pv 3) pe_int)))))))))
    (pss_one (ps_ret (pe_lst (pa_cons (pv 1) (pa_cons (pv 2) (pa_cons pe_int pa_nil))))))))), ?_⟩
  have hl : (ns.map V.int).length = ns.length := List.length_map _
  refine ⟨by show 0 ≤ sizeLine; decide, fun g hg => ?_⟩
  have S1 := same_new hg (.lst [])
  refine ⟨_, rfl, a, _, rfl, .inl (S1.seq hS), by show 1 ≤ sizeLine; decide, fun c hc => ?_⟩
  have S2 := S1.new hc (o := .lst [.int (ns.map V.int).length])
  have hgc : g ≠ c := ne_of_none upd_same hc
  refine ⟨_, rfl, _, rfl, a, _, rfl, S2.seq hS, fun p hp => ?_⟩
  have ecut : cutV (ns.map V.int) none (some 63) = ns.map V.int := by
    show ((ns.map V.int).drop 0).take ((HT.sIx (ns.map V.int).length (ns.map V.int).length (some ((63 : Nat) : Int))) - 0) = _
    rw [HT.sIx_nat, hl, List.drop_zero, Nat.sub_zero, Nat.min_eq_right h63]
    exact List.take_of_length_le (by rw [hl]; exact Nat.le_refl _)
  rw [ecut]
  have hg2 : H g = none := hg
  have hcn : H c = none := S1.free hc
  have hpn : H p = none := S2.free hp
  have hpg : g ≠ p := ne_of_none (show (upd (upd H g (.lst [])) c (.lst [.int (ns.map V.int).length])) g = some (.lst []) by rw [upd_ne hgc]; exact upd_same) hp
  have hpc : c ≠ p := ne_of_none upd_same hp
  refine ⟨p, rfl, ⟨_, SqL.of upd_same⟩, for_list (xs := ns.map V.int) (fun i σ H' => ∃ (ds cs : List Int) (x : Option V), σ = [some (.ref a), some (.ref g), some (.ref c), x] ∧ H' g = some (.lst (ds.map V.int)) ∧ H' c = some (.lst (cs.map V.int)) ∧ H' p = some (.lst (ns.map V.int)) ∧ ds.length ≤ 900 ∧ (∀ x ∈ ds, 0 ≤ x ∧ x < MM) ∧ cs.length = i + 1 ∧ (∀ x ∈ cs, 0 ≤ x ∧ x < MM) ∧ Same H H') ?_ ?_ ?_ ?_⟩
  · refine ⟨[], [(ns.length : Int)], _, rfl, ?_, ?_, upd_same, by decide, by simp, rfl, ?_, (S2.new hp)⟩
    · rw [upd_ne hpg, upd_ne hgc]; exact upd_same
    · rw [upd_ne hpc, hl]; exact upd_same
    · intro x hx
      simp only [List.mem_singleton] at hx
      subst hx
      exact ⟨by omega, by show (ns.length : Int) < 2147483629; omega⟩
  · rintro i σ H' _ ⟨ds, cs, x, _, _, _, h3, _⟩
    exact SqL.of h3
  · rintro i x σ H' hx ⟨ds, cs, x0, rfl, h1, h2, h3, hd9, hds, hcl, hcs, hSm⟩
    rw [List.getElem?_map] at hx
    obtain ⟨n, hn, rfl⟩ := Option.map_eq_some_iff.mp hx
    have hin : i < ns.length := (List.getElem?_eq_some_iff.mp hn).1
    refine ⟨_, rfl, n, rfl, ?_⟩
    have h0 : (0 : Int) ≤ (if n < 0 then -n else n) := by split <;> omega
    generalize (if n < 0 then -n else n) = m at h0
    refine ⟨_, rfl, .inl ⟨rfl, _, SqL.of h2⟩, _, rfl, _, _, rfl, rfl, by show (0 : Int) < 2147483629; decide, c, _, _, rfl, rfl, h2, small1000 (by rw [List.length_map, hcl]; omega), ?_⟩
    have S3 : Same H (upd H' c (.lst (cs.map V.int ++ [.int (m % 2147483629)]))) := hSm.mutN hcn
    refine while_by (fun σ H' => ∃ (ds : List Int) (k : Int), σ = [some (.ref a), some (.ref g), some (.ref c), some (.int k)] ∧ 0 ≤ k ∧ H' g = some (.lst (ds.map V.int)) ∧ H' c = some (.lst ((cs ++ [m % 2147483629]).map V.int)) ∧ H' p = some (.lst (ns.map V.int)) ∧ ds.length ≤ 900 ∧ (∀ x ∈ ds, 0 ≤ x ∧ x < MM) ∧ Same H H') (fun σ _ => match σ with | [_, _, _, some (.int k)] => k.toNat | _ => 0) ?_ ?_ ?_
    · refine ⟨ds, m, rfl, h0, ?_, ?_, ?_, hd9, hds, S3⟩
      · rw [upd_ne hgc]; exact h1
      · rw [upd_same, List.map_append]; rfl
      · rw [upd_ne (Ne.symm hpc)]; exact h3
    · rintro σ H1 ⟨es, k, rfl, hk0, e1, e2, e3, he9, hes, hS1⟩
      have fin : (∃ (ds cs : List Int) (x : Option V), ([some (.ref a), some (.ref g), some (.ref c), some (.int k)] : List (Option V)) = [some (.ref a), some (.ref g), some (.ref c), x] ∧ H1 g = some (.lst (ds.map V.int)) ∧ H1 c = some (.lst (cs.map V.int)) ∧ H1 p = some (.lst (ns.map V.int)) ∧ ds.length ≤ 900 ∧ (∀ x ∈ ds, 0 ≤ x ∧ x < MM) ∧ cs.length = (i + 1) + 1 ∧ (∀ x ∈ cs, 0 ≤ x ∧ x < MM) ∧ Same H H1) := by
        refine ⟨es, cs ++ [m % 2147483629], _, rfl, e1, e2, e3, he9, hes, by rw [List.length_append, hcl]; rfl, ?_, hS1⟩
        intro x hx
        rcases List.mem_append.mp hx with hx | hx
        · exact hcs x hx
        · simp only [List.mem_singleton] at hx
          subst hx
          exact mod_range (by decide)
      refine ⟨_, rfl, _, _, rfl, rfl, ⟨by decide, by decide, by decide⟩, _, _, rfl, rfl, _, rfl, ?_⟩
      refine ite2 (fun c1 => ?_) (fun c1 => ?_)
      · have c1' : ((10 : Int) ^ (18 : Int).toNat) ≤ k := of_decide_eq_true c1
        refine ⟨_, rfl, g, _, rfl, .inl (SqL.of e1), _, _, rfl, rfl, _, rfl, ?_⟩
        refine ite2 (fun c2 => ?_) (fun c2 => ?_)
        · have c2' : (((es.map V.int).length : Nat) : Int) < 900 := of_decide_eq_true c2
          rw [List.length_map] at c2'
          refine ⟨_, rfl, .inl ⟨rfl, _, SqL.of e1⟩, _, rfl, _, _, rfl, rfl, by show (0 : Int) < 2147483629; decide, g, _, _, rfl, rfl, e1, small1000 (by rw [List.length_map]; omega), ?_⟩
          refine ⟨_, rfl, _, _, rfl, rfl, wide_div (b := 32) (by decide) (by decide) (by decide) (by decide), ?_⟩
          refine ⟨⟨es ++ [k % 2147483629], k / 2147483629, rfl, ?_, ?_, ?_, ?_, ?_, ?_, hS1.mutN hg2⟩, ?_⟩
          · exact Int.ediv_nonneg hk0 (by decide)
          · rw [upd_same, List.map_append]; rfl
          · rw [upd_ne (Ne.symm hgc)]; exact e2
          · rw [upd_ne (Ne.symm hpg)]; exact e3
          · rw [List.length_append, List.length_singleton]; omega
          · intro x hx
            rcases List.mem_append.mp hx with hx | hx
            · exact hes x hx
            · simp only [List.mem_singleton] at hx
              subst hx
              exact mod_range (by decide)
          · show (k / 2147483629).toNat < k.toNat
            have e18 : ((10 : Int) ^ (18 : Int).toNat) = 1000000000000000000 := by decide
            rw [e18] at c1'
            omega
        · exact fin
      · exact fin
    · exact fun σ H Q Q' hm h => by
        obtain ⟨v, hv, i1, j1, a1, a2, a3, i2, j2, a4, a5, k1, a6, a7⟩ := h
        refine ⟨v, hv, i1, j1, a1, a2, a3, i2, j2, a4, a5, k1, a6, ?_⟩
        revert a7
        refine fun a7 => ?_
        cases k1 with
        | true =>
          obtain ⟨v, hv, p, ys, b1, b2, i3, j3, b3, b4, k2, b5, b6⟩ := (show _ from a7)
          exact ⟨v, hv, p, ys, b1, b2, i3, j3, b3, b4, k2, b5, hm _ _ b6⟩
        | false => exact hm _ _ a7
  · rintro σ H' ⟨ds, cs, x0, rfl, h1, h2, h3, hd9, hds, hcl, hcs, hSm⟩
    refine ⟨_, rfl, _, rfl, by show 3 ≤ sizeLine; decide, fun d hd => ?_⟩
    have hdg : d ≠ g := (ne_of_none h1 hd).symm
    have hdc : d ≠ c := (ne_of_none h2 hd).symm
    refine q d g c _ ⟨hdg, hdc, hgc, ⟨0, upd_same, Nat.le_refl _⟩, ⟨ds, by rw [upd_ne (Ne.symm hdg)]; exact h1, hds⟩, ⟨cs, by rw [upd_ne (Ne.symm hdc)]; exact h2, by omega, by rw [hcl, hl]; omega, hcs⟩⟩ (hSm.new hd) (hSm.free hd) hg2 hcn
theorem dpAll_ints (K : PySem.W.Frag) (H : Hp) : ∀ ds : List Int, DpAll K H (ds.map V.int) (ds.map PyData.int)
  | [] => .nil
  | x :: r => .cons (.int x) (dpAll_ints K H r)
/-! ### the next number of the deck -/
abbrev s_next : Stmt := top 21
abbrev N_next : List Str := ["_law_deck_here", "_law_at", "_law_cell"]
abbrev P_next : List Str := ["_law_deck_here"]
theorem sc_next : FnScope N_next P_next (defScope s_next) := ⟨rfl, rfl, rfl, by decide +kernel, rfl, by decide +kernel, by decide +kernel⟩
def spNext : Sp := fun vs H Q _ => ∃ (d g c : Addr) (n : Nat), vs = [.ref d] ∧ Deck H d g c n ∧ n < 2 ^ 40 ∧
  ∀ k H', 0 ≤ k → k < MM → Deck H' d g c (n + 1) → Keep [d, g, c] H H' → Q (.int k) H'
theorem ok_next (T : Bt mg) (C_next : Cal K mg "_law_next" s_next P_next f fd) : FnOk P w K mg base CX0 1 f fd P_next spNext := by
  refine C_next.F.ok sc_next (fun vs H Q E h => ?_) (fun cdv A outer s H vs Q E hr h => ?_)
  · obtain ⟨d, g, c, n, rfl, _⟩ := h
    rfl
  obtain ⟨d, g, c, n, rfl, D, hn, q⟩ := h
  refine ⟨_, PSs.nox (pss_cons (ps_if (pt_cmpR (op_neD hr.units) (pe_ix ix_list (pv 0) pe_int (fun _ _ => rfl)) (pe_lst pa_nil) (nomark _)) (pss_one (ps_ret (pe_bm PySem.F.plainAttrs_list PySem.F.slot_list_pop PySem.F.type_list_pop mt_popAt (pe_ix ix_list (pv 0) pe_int (fun _ _ => rfl)) (pa_cons pe_int pa_nil)))) pss_nil)
    (pss_cons (ps_set (i := 1) sc_next.nd rfl (Or.inl rfl) (pe_ix ix_list (pv 0) pe_int (fun _ _ => rfl)))
    (pss_cons (ps_asg (pe_op op_add (pv 1) pe_int) (pg_sub (pv 0) pe_int set_list))
    (pss_cons (ps_set (i := 2) sc_next.nd rfl (Or.inl rfl) (pe_op op_add (pe_ix ix_list (pe_ix ix_list (pv 0) pe_int (fun _ _ => rfl)) (pe_op op_mod (pe_op op_add (pv 1) pe_int) (pe_callB call_len_seq (by rfl) T.t_len (by decide +kernel) (pa_cons (pe_ix ix_list (pv 0) pe_int (fun _ _ => rfl)) pa_nil))) (fun _ _ => rfl)) (pe_op op_mul pe_int (pv 1))))
    (pss_one (ps_ret (pe_op op_mod (pe_op op_add (pe_op op_mod (pe_op op_pow (pe_op op_add (pv 2) (pe_op op_mul pe_int (pe_op op_add (pv 1) pe_int))) pe_int) pe_int) (pe_op op_mul pe_int (pv 2))) pe_int))))))), ?_⟩
  obtain ⟨k, h1, hk⟩ := D.hd
  obtain ⟨ds, h2, hds⟩ := D.hg
  obtain ⟨cs, h3, hc0, hc64, hcs⟩ := D.hc
  refine ⟨_, rfl, d, _, _, _, rfl, rfl, SqL.of h1, rfl, ?_⟩
  refine ⟨by show 0 ≤ sizeLine; decide, fun p hp => ?_⟩
  have hpD := D.not_new hp
  have hdp : d ≠ p := ne_of_none h1 hp
  have hgp : g ≠ p := ne_of_none h2 hp
  have hcp : c ≠ p := ne_of_none h3 hp
  have h1' : (upd H p (.lst [])) d = some (.lst [.ref g, .ref c, .int k]) := by rw [upd_ne hdp]; exact h1
  have h2' : (upd H p (.lst [])) g = some (.lst (ds.map V.int)) := by rw [upd_ne hgp]; exact h2
  have h3' : (upd H p (.lst [])) c = some (.lst (cs.map V.int)) := by rw [upd_ne hcp]; exact h3
  have k1 : Keep [d, g, c] H (upd H p (.lst [])) := (Keep.refl _ _).new hp
  refine ⟨.list (ds.map PyData.int), .list [], .lst (SqL.of h2') (dpAll_ints _ _ ds), .lst (SqL.of upd_same) .nil, PySem.W.shaped_ints ds, rfl, _, rfl, ?_⟩
  have ek : PyData.eqv (.list (ds.map PyData.int)) (.list []) = ds.isEmpty := by cases ds <;> rfl
  rw [ek]
  refine ite2 (fun c1 => ?_) (fun c1 => ?_)
  · cases ds with
    | nil => cases c1
    | cons x r =>
      refine ⟨_, rfl, d, _, _, _, rfl, rfl, SqL.of h1', rfl, .inl ⟨rfl, _, SqL.of h2'⟩, g, _, 0, 0, .int x, rfl, rfl, h2', by decide, by decide, ?_, rfl, ?_⟩
      · show (if (0 ≤ (0 : Int) && (0 : Int) < (((x :: r).map V.int).length : Nat)) then some (0 : Int).toNat else none) = some 0
        rw [if_pos]
        · rfl
        · simp
      · refine q x _ (hds x (by simp)).1 (hds x (by simp)).2 ⟨D.ne1, D.ne2, D.ne3, ⟨k, ?_, by omega⟩, ⟨r, ?_, fun y hy => hds y (by simp [hy])⟩, ⟨cs, ?_, hc0, hc64, hcs⟩⟩ (k1.mut (by simp))
        · rw [upd_ne D.ne1]; exact h1'
        · exact upd_same
        · rw [upd_ne (Ne.symm D.ne3)]; exact h3'
  · refine ⟨_, rfl, d, _, _, _, rfl, rfl, SqL.of h1', rfl, ?_⟩
    refine ⟨_, rfl, _, _, rfl, rfl, _, rfl, d, _, _, 2, rfl, rfl, h1', rfl, ?_⟩
    have h1'' : upd (upd H p (.lst [])) d (.lst ([V.ref g, .ref c, .int k].set 2 (.int ((k : Int) + 1)))) d = some (.lst [.ref g, .ref c, .int ((k : Int) + 1)]) := upd_same
    have h3'' : upd (upd H p (.lst [])) d (.lst ([V.ref g, .ref c, .int k].set 2 (.int ((k : Int) + 1)))) c = some (.lst (cs.map V.int)) := by rw [upd_ne (Ne.symm D.ne2)]; exact h3'
    have h2'' : upd (upd H p (.lst [])) d (.lst ([V.ref g, .ref c, .int k].set 2 (.int ((k : Int) + 1)))) g = some (.lst (ds.map V.int)) := by rw [upd_ne (Ne.symm D.ne1)]; exact h2'
    have k2 : Keep [d, g, c] H (upd (upd H p (.lst [])) d (.lst ([V.ref g, .ref c, .int k].set 2 (.int ((k : Int) + 1))))) := k1.mut (by simp)
    generalize upd (upd H p (.lst [])) d (.lst ([V.ref g, .ref c, .int k].set 2 (.int ((k : Int) + 1)))) = H2 at h1'' h2'' h3'' k2
    have hcl : (0 : Int) < (((cs.map V.int).length : Nat) : Int) := by rw [List.length_map]; omega
    obtain ⟨v, hv, hvm⟩ := at_int (ns := cs) (i := ((k : Int) + 1) % (((cs.map V.int).length : Nat) : Int)) (mod_range hcl).1 (by have := (mod_range (k := (k : Int) + 1) hcl).2; rw [List.length_map] at this; rw [List.length_map]; exact this)
    obtain ⟨hv0, hv1⟩ := hcs v hvm
    refine ⟨_, rfl, d, _, _, _, rfl, rfl, SqL.of h1'', rfl, ?_⟩
    refine ⟨_, rfl, _, _, rfl, rfl, ?_⟩
    refine ⟨_, rfl, d, _, _, _, rfl, rfl, SqL.of h1'', rfl, c, _, rfl, .inl (SqL.of h3''), _, _, rfl, rfl, hcl, c, _, _, _, rfl, rfl, SqL.of h3'', hv, ?_⟩
    refine ⟨_, rfl, _, _, rfl, rfl, .inl ⟨by decide, by decide⟩, _, _, rfl, rfl, ?_⟩
    refine ⟨_, rfl, _, rfl, _, _, rfl, rfl, _, _, rfl, rfl, .inl ⟨by decide, by decide⟩, _, _, rfl, rfl, _, _, rfl, rfl, ⟨by decide, by decide, ?_⟩, _, _, rfl, rfl, by show (0 : Int) < 2147483647; decide, ?_⟩
    · show (v + 7 * (k : Int) + 48271 * ((k : Int) + 1)).natAbs < 2 ^ 64
      have : (v : Int) < 2147483629 := hv1
      omega
    · refine ⟨_, rfl, _, _, rfl, rfl, .inl ⟨by decide, by decide⟩, _, _, rfl, rfl, _, _, rfl, rfl, by show (0 : Int) < 2147483629; decide, ?_⟩
      exact q _ _ (mod_range (by decide)).1 (mod_range (by decide)).2 ⟨D.ne1, D.ne2, D.ne3, ⟨k + 1, h1'', by omega⟩, ⟨ds, h2'', hds⟩, ⟨cs, h3'', hc0, hc64, hcs⟩⟩ k2
end
end Nf


set_option Elab.async false
set_option linter.all false
set_option maxRecDepth 100000
namespace Nf
open PySem L2
section
variable {P : Program} {w : World} {K : PySem.W.Frag} {mg : Str → Option Value} {base : Heap} {f fn a1 a2 : Addr} {fd fnd d1 d2 : FuncData}
/-- whatever may be handed in: what isinstance tells of it -/
inductive Any (K : PySem.W.Frag) (H : Hp) : V → Prop
  | str (z : Str) (l : z.length ≤ 1000) : Any K H (.str z)
  | no {x : V} {t : String} (n : NoTxt K H x) (ty : TyX K H x (.type t)) (k : kitB t "str" = some false) : Any K H x
def txOf : V → Option Str
  | .str z => some z
  | _ => none
def textOf (o : Option Str) (signs : Str) (m : Int) : Bool := match o with
  | some z => decide (1 ≤ (z.length : Int)) && (decide ((z.length : Int) ≤ m) && z.cps.toList.all fun c => decide (c ∈ signs.cps.toList))
  | none => false
def letters : Str := "abcdefghijklmnopqrstuvwxyz"
def figures : Str := "0123456789"
def wordOf (o : Option Str) : Bool := textOf o letters 8 && match o with
  | some z => !inV (.str z) ((["kind", "def", "either", "same", "truth"] : List Str).map V.str)
  | none => true
theorem NoTxt.tx {H : Hp} {x : V} (h : NoTxt K H x) : txOf x = none := by
  rcases h with rfl | ⟨b, rfl⟩ | ⟨i, rfl⟩ | ⟨a, rfl, _⟩ <;> rfl
/-! ### is_text_of -/
abbrev s_is_text_of : Stmt := top 10
abbrev N_is_text_of : List Str := ["thing", "signs", "most", "sign"]
abbrev P_is_text_of : List Str := ["thing", "signs", "most"]
theorem sc_is_text_of : FnScope N_is_text_of P_is_text_of (defScope s_is_text_of) := ⟨rfl, rfl, rfl, by decide +kernel, rfl, by decide +kernel, by decide +kernel⟩
def spText : Sp := fun vs H Q _ => ∃ (x : V) (signs : Str) (m : Int), vs = [x, .str signs, .int m] ∧ Any K H x ∧ m ≤ 1000 ∧ ∀ H', Same H H' → Q (.bl (textOf (txOf x) signs m)) H'
theorem ok_text (T : Bt mg) (C_is_text_of : Cal K mg "is_text_of" s_is_text_of P_is_text_of f fd) : FnOk P w K mg base CX0 1 f fd P_is_text_of (spText (K := K)) := by
  refine C_is_text_of.F.ok sc_is_text_of (fun vs H Q E h => ?_) (fun cdv A outer s H vs Q E hr h => ?_)
  · obtain ⟨x, sg, m, rfl, _⟩ := h
    rfl
  obtain ⟨x, sg, m, rfl, hx, hm, q⟩ := h
  refine ⟨_, PSs.nox (pss_cons (ps_if (PW.pt (pw_or (pt_not (pt_val (pe_callB call_isi (by rfl) T.t_isinstance (by decide +kernel) (pa_cons (pv 0) (pa_cons (pe_bltn (v := .ty "str") (by rfl) T.t_str (by decide +kernel) rfl) pa_nil))))) (pw_or1 (pt_not (pt_chain op_le op_le pe_int (pe_callB call_len_str (by rfl) T.t_len (by decide +kernel) (pa_cons (pv 0) pa_nil)) (pv 2)))))) (pss_one (ps_ret pe_bl)) pss_nil)
    (pss_one (ps_ret (pe_callB (cr_all rfl) (by rfl) T.t_all (by decide +kernel) (pa_cons (pe_lc (own := [("sign", 3)]) (g := gName 3) (tt := tYes) (by rfl) sc_is_text_of.nd (pi_str (pv 0)) (blkOk_by (own := [("sign", 3)]) (N := N_is_text_of) (sc := defScope s_is_text_of) (by decide +kernel)) (fun _ _ _ _ _ => (pg_name (i := 3) sc_is_text_of.nd rfl (Or.inl rfl))) (fun _ _ _ _ _ => pts_nil) (fun _ _ _ _ _ => (pe_cmpR op_in_sign (pv 3) (pv 1) (by rfl)))) pa_nil))))), ?_⟩
  cases hx with
  | no n ty k =>
    rw [n.tx] at q
    refine ⟨_, rfl, _, _, _, _, false, rfl, .ty _, ty, kit_ty k, ?_⟩
    refine ⟨_, rfl, ?_⟩
    refine iteT ?_
    exact q _ (Same.refl _)
  | str z l =>
    have tx : TyX K H (.str z) (.type "str") := .base (.str z)
    refine ⟨_, rfl, _, _, _, _, true, rfl, .ty _, tx, kit_ty (by decide +kernel), ?_⟩
    refine ⟨_, rfl, ?_⟩
    refine iteF ?_
    have q' : ∀ H', Same H H' → Q (.bl (decide (1 ≤ (z.length : Int)) && (decide ((z.length : Int) ≤ m) && z.cps.toList.all fun c => decide (c ∈ sg.cps.toList)))) H' := q
    refine ⟨_, rfl, z, rfl, Nat.le_of_lt (small1000 (by omega)), _, _, rfl, rfl, _, rfl, ?_⟩
    by_cases h1 : 1 ≤ (z.length : Int)
    · rw [decide_eq_true h1] at q' ⊢
      refine iteT ?_
      refine ⟨_, rfl, _, _, rfl, rfl, _, rfl, ?_⟩
      by_cases h2 : (z.length : Int) ≤ m
      · rw [decide_eq_true h2] at q' ⊢
        refine iteF ?_
        refine ⟨_, rfl, z, rfl, fun Z hZ => ?_⟩
        have lz : z.cps.size ≤ 1000 := l
        refine lc_it (walk_str (z := z)) (fun i H' => Same H H' ∧ H' Z = some (.lst (((z.cps.toList.take i).map fun c => decide (c ∈ sg.cps.toList)).map V.bl))) ?_ ?_ ?_ ?_
        · exact ⟨same_new hZ _, upd_same⟩
        · rintro i H1 _ _
          exact True.intro
        · rintro i x H1 H2 hi ⟨S1, hZ1⟩ ⟨rfl, c, hc, rfl⟩
          have hc' : z.cps.toList[i]? = some c := by rw [Array.getElem?_toList]; exact hc
          refine ⟨rfl, yes_if ?_⟩
          refine ⟨_, rfl, _, rfl, c, sg, rfl, rfl, _, hZ1, small1000 (by rw [List.length_map, List.length_map, List.length_take]; omega), S1.mutN hZ, ?_⟩
          rw [upd_same, List.take_add_one, hc', List.map_append, List.map_append]
          rfl
        · rintro H1 ⟨S1, hZ1⟩
          have e : z.cps.toList.take z.cps.size = z.cps.toList := List.take_of_length_le (by simp)
          rw [e] at hZ1
          refine ⟨Z, _, rfl, SqL.of hZ1, ?_⟩
          have := q' H1 S1
          rw [List.all_map]
          exact this
      · rw [decide_eq_false h2] at q' ⊢
        refine iteT ?_
        exact q' _ (Same.refl _)
    · rw [decide_eq_false h1] at q' ⊢
      refine iteF ?_
      refine ⟨_, rfl, ?_⟩
      refine iteT ?_
      exact q' _ (Same.refl _)
/-- the names of the module -/
structure Bt1 (K : PySem.W.Frag) (mg : Str → Option Value) (tL tF tm tn tp : Tok) (aK aE aT aP : Addr) : Prop extends Bt mg where
  g_LETTERS : mg "LETTERS" = some (.str "abcdefghijklmnopqrstuvwxyz" tL)
  g_FIGURES : mg "FIGURES" = some (.str "0123456789" tF)
  g_MOST_LETTERS : mg "MOST_LETTERS" = some (.int 8 tm)
  g_MOST_FIGURES : mg "MOST_FIGURES" = some (.int 3 tn)
  g_MOST_PARTS : mg "MOST_PARTS" = some (.int 3 tp)
  g_KEPT_WORDS : mg "KEPT_WORDS" = some (.ref aK)
  g_EVERY_HEAD : mg "EVERY_HEAD" = some (.ref aE)
  g_THING_HEADS : mg "THING_HEADS" = some (.ref aT)
  g_PLAIN_HEADS : mg "PLAIN_HEADS" = some (.ref aP)
  k_KEPT : ∀ H, SqT K H aK ((["kind", "def", "either", "same", "truth"] : List Str).map V.str)
  k_EVERY : ∀ H, SqT K H aE ((["name", "made", "call", "either", "same", "skip"] : List Str).map V.str)
  k_THING : ∀ H, SqT K H aT ((["name", "made"] : List Str).map V.str)
  k_PLAIN : ∀ H, SqT K H aP ((["made"] : List Str).map V.str)
variable {tL tF tm tn tp : Tok} {aK aE aT aP : Addr}
/-! ### is_word -/
abbrev s_is_word : Stmt := top 11
abbrev N_is_word : List Str := ["thing"]
abbrev P_is_word : List Str := ["thing"]
theorem sc_is_word : FnScope N_is_word P_is_word (defScope s_is_word) := ⟨rfl, rfl, rfl, by decide +kernel, rfl, by decide +kernel, by decide +kernel⟩
def spWord : Sp := fun vs H Q _ => ∃ x : V, vs = [x] ∧ Any K H x ∧ ∀ H', Same H H' → Q (.bl (wordOf (txOf x))) H'
theorem ok_word (T : Bt1 K mg tL tF tm tn tp aK aE aT aP) (C_is_word : Cal K mg "is_word" s_is_word P_is_word f fd)
    (C_is_text_of : Cal K mg "is_text_of" s_is_text_of P_is_text_of a1 d1) (G_is_text_of : FnOk P w K mg base CX0 1 a1 d1 P_is_text_of (spText (K := K))) : FnOk P w K mg base CX0 2 f fd P_is_word (spWord (K := K)) := by
  refine C_is_word.F.ok sc_is_word (fun vs H Q E h => ?_) (fun cdv A outer s H vs Q E hr h => ?_)
  · obtain ⟨x, rfl, _⟩ := h
    rfl
  obtain ⟨x, rfl, hx, q⟩ := h
  refine ⟨_, PSs.nox (pss_one (ps_ret (pe_and (pe_call G_is_text_of (hr.mono (by omega)) (by rfl) C_is_text_of.m C_is_text_of.F.kp C_is_text_of.b .nil pass0 (pa_cons (pv 0) (pa_cons (pe_glob (v := .str _) (by rfl) T.g_LETTERS ⟨_, rfl⟩) (pa_cons (pe_glob (v := .int _) (by rfl) T.g_MOST_LETTERS ⟨_, rfl⟩) pa_nil)))) (pe_one (pe_cmpR op_notIn_seq (pv 0) (pe_glob (v := .ref _) (by rfl) T.g_KEPT_WORDS rfl) (by rfl)))))), ?_⟩
  refine ⟨_, rfl, x, letters, 8, rfl, hx, by decide, fun H1 S1 => ⟨_, rfl, ?_⟩⟩
  have q1 := q H1 S1
  unfold wordOf at q1
  cases hb : textOf (txOf x) letters 8 with
  | false =>
    rw [hb] at q1
    refine iteF ?_
    exact q1
  | true =>
    rw [hb] at q1
    refine iteT ?_
    cases hx with
    | no n ty k => rw [n.tx] at hb; cases hb
    | str z l => exact ⟨_, rfl, aK, _, rfl, .inr (T.k_KEPT _), rfl, rfl, q1⟩
/-! ### is_new_name -/
def newOf (o : Option Str) : Bool := textOf o figures 3 && match o with
  | some z => !Txt.startswith z "0"
  | none => true
abbrev s_is_new_name : Stmt := top 12
abbrev N_is_new_name : List Str := ["thing"]
abbrev P_is_new_name : List Str := ["thing"]
theorem sc_is_new_name : FnScope N_is_new_name P_is_new_name (defScope s_is_new_name) := ⟨rfl, rfl, rfl, by decide +kernel, rfl, by decide +kernel, by decide +kernel⟩
def spNew : Sp := fun vs H Q _ => ∃ x : V, vs = [x] ∧ Any K H x ∧ ∀ H', Same H H' → Q (.bl (newOf (txOf x))) H'
theorem ok_new (T : Bt1 K mg tL tF tm tn tp aK aE aT aP) (C_is_new_name : Cal K mg "is_new_name" s_is_new_name P_is_new_name f fd)
    (C_is_text_of : Cal K mg "is_text_of" s_is_text_of P_is_text_of a1 d1) (G_is_text_of : FnOk P w K mg base CX0 1 a1 d1 P_is_text_of (spText (K := K))) : FnOk P w K mg base CX0 2 f fd P_is_new_name (spNew (K := K)) := by
  refine C_is_new_name.F.ok sc_is_new_name (fun vs H Q E h => ?_) (fun cdv A outer s H vs Q E hr h => ?_)
  · obtain ⟨x, rfl, _⟩ := h
    rfl
  obtain ⟨x, rfl, hx, q⟩ := h
  refine ⟨_, PSs.nox (pss_one (ps_ret (pe_and (pe_call G_is_text_of (hr.mono (by omega)) (by rfl) C_is_text_of.m C_is_text_of.F.kp C_is_text_of.b .nil pass0 (pa_cons (pv 0) (pa_cons (pe_glob (v := .str _) (by rfl) T.g_FIGURES ⟨_, rfl⟩) (pa_cons (pe_glob (v := .int _) (by rfl) T.g_MOST_FIGURES ⟨_, rfl⟩) pa_nil)))) (pe_one (pe_not (pe_m1 PySem.F.slot_str_startswith PySem.F.type_str_startswith mt_startswith (pv 0) pe_str)))))), ?_⟩
  refine ⟨_, rfl, x, figures, 3, rfl, hx, by decide, fun H1 S1 => ⟨_, rfl, ?_⟩⟩
  have q1 := q H1 S1
  unfold newOf at q1
  cases hb : textOf (txOf x) figures 3 with
  | false =>
    rw [hb] at q1
    refine iteF ?_
    exact q1
  | true =>
    rw [hb] at q1
    refine iteT ?_
    cases hx with
    | no n ty k => rw [n.tx] at hb; cases hb
    | str z l => exact ⟨_, rfl, ⟨z, rfl⟩, z, _, rfl, rfl, _, rfl, q1⟩
end
end Nf


set_option Elab.async false
set_option linter.all false
set_option maxRecDepth 100000
namespace Nf
open PySem L2
section
variable {P : Program} {w : World} {K : PySem.W.Frag} {mg : Str → Option Value} {base : Heap} {f fn a1 a2 : Addr} {fd fnd d1 d2 : FuncData}
/-! ### the law's own words -/
def sgn (c : Nat) : V := .str ⟨#[c]⟩
theorem filt_snoc (p : Nat → Bool) (l : List Nat) (c : Nat) : ((l ++ [c]).filter p).map sgn = (l.filter p).map sgn ++ (if p c = true then [sgn c] else []) := by
  rw [List.filter_append, List.map_append]
  cases hp : p c <;> simp [hp]
theorem none_out (p : Nat → Bool) (l : List Nat) : ((l.filter fun c => !p c).map sgn).isEmpty = l.all p := by
  induction l with
  | nil => rfl
  | cons c r ih =>
    rw [List.filter_cons, List.all_cons]
    cases p c
    · rfl
    · simpa using ih
abbrev s_l_is_word : Stmt := top 25
abbrev N_l_is_word : List Str := ["_law_thing", "_law_sign"]
abbrev P_l_is_word : List Str := ["_law_thing"]
theorem sc_l_is_word : FnScope N_l_is_word P_l_is_word (defScope s_l_is_word) := ⟨rfl, rfl, rfl, by decide +kernel, rfl, by decide +kernel, by decide +kernel⟩
theorem ok_lword (T : Bt mg) (C_l_is_word : Cal K mg "_law_is_word" s_l_is_word P_l_is_word f fd) : FnOk P w K mg base CX0 1 f fd P_l_is_word (spWord (K := K)) := by
  refine C_l_is_word.F.ok sc_l_is_word (fun vs H Q E h => ?_) (fun cdv A outer s H vs Q E hr h => ?_)
  · obtain ⟨x, rfl, _⟩ := h
    rfl
  obtain ⟨x, rfl, hx, q⟩ := h
  refine ⟨_, PSs.nox (pss_cons (ps_if (PW.pt (pw_or (pt_not (pt_val (pe_callB call_isi (by rfl) T.t_isinstance (by decide +kernel) (pa_cons (pv 0) (pa_cons (pe_bltn (v := .ty "str") (by rfl) T.t_str (by decide +kernel) rfl) pa_nil))))) (pw_or1 (pt_not (pt_chain op_le op_le pe_int (pe_callB call_len_str (by rfl) T.t_len (by decide +kernel) (pa_cons (pv 0) pa_nil)) pe_int))))) (pss_one (ps_ret pe_bl)) pss_nil)
    (pss_cons (ps_if (pt_cmpR op_in_seq (pv 0) (pe_lst (pa_cons pe_str (pa_cons pe_str (pa_cons pe_str (pa_cons pe_str (pa_cons pe_str pa_nil)))))) (by rfl)) (pss_one (ps_ret pe_bl)) pss_nil)
    (pss_one (ps_ret (pe_cmpR (op_eq_nil hr.units0) (pe_lc (own := [("_law_sign", 1)]) (g := gName 1) (by rfl) sc_l_is_word.nd (pi_str (pv 0)) (blkOk_by (own := [("_law_sign", 1)]) (N := N_l_is_word) (sc := defScope s_l_is_word) (by decide +kernel)) (fun _ _ _ _ _ => (pg_name (i := 1) sc_l_is_word.nd rfl (Or.inl rfl))) (fun _ _ _ _ _ => (pts_one (pt_cmpR op_notIn_sign (pv 1) pe_str (by rfl)))) (fun _ _ _ _ _ => (pv 1))) (pe_lst pa_nil) (nomark _)))))), ?_⟩
  cases hx with
  | no n ty k =>
    rw [n.tx] at q
    refine ⟨_, rfl, _, _, _, _, false, rfl, .ty _, ty, kit_ty k, ?_⟩
    refine ⟨_, rfl, ?_⟩
    refine iteT ?_
    exact q _ (Same.refl _)
  | str z l =>
    have tx : TyX K H (.str z) (.type "str") := .base (.str z)
    refine ⟨_, rfl, _, _, _, _, true, rfl, .ty _, tx, kit_ty (by decide +kernel), ?_⟩
    refine ⟨_, rfl, ?_⟩
    refine iteF ?_
    have q' : ∀ H', Same H H' → Q (.bl ((decide (1 ≤ (z.length : Int)) && (decide ((z.length : Int) ≤ 8) && z.cps.toList.all fun c => decide (c ∈ letters.cps.toList))) && !inV (.str z) ((["kind", "def", "either", "same", "truth"] : List Str).map V.str))) H' := q
    refine ⟨_, rfl, z, rfl, Nat.le_of_lt (small1000 (by omega)), _, _, rfl, rfl, _, rfl, ?_⟩
    by_cases h1 : 1 ≤ (z.length : Int)
    · rw [decide_eq_true h1] at q' ⊢
      refine iteT ?_
      refine ⟨_, _, rfl, rfl, _, rfl, ?_⟩
      by_cases h2 : (z.length : Int) ≤ 8
      · rw [decide_eq_true h2] at q' ⊢
        refine iteF ?_
        refine ⟨_, rfl, by show 5 ≤ sizeLine; decide, fun p hp => ⟨p, _, rfl, .inl (SqL.of upd_same), rfl, rfl, _, rfl, ?_⟩⟩
        have S1 := same_new hp (.lst [.str "kind", .str "def", .str "either", .str "same", .str "truth"])
        cases hin : inV (.str z) ((["kind", "def", "either", "same", "truth"] : List Str).map V.str) with
        | true =>
          refine ifBT hin ?_
          have := q' _ S1
          rw [hin, Bool.not_true, Bool.and_false] at this
          exact this
        | false =>
          refine ifBF hin ?_
          have q1 := fun H' S' => q' H' (S1.trans S')
          rw [hin, Bool.not_false, Bool.and_true, Bool.true_and, Bool.true_and] at q1
          clear q q'
          generalize upd H p (.lst [.str "kind", .str "def", .str "either", .str "same", .str "truth"]) = H1 at S1 q1
          refine ⟨_, rfl, z, rfl, fun Z hZ => ?_⟩
          have lz : z.cps.size ≤ 1000 := l
          refine lc_it (walk_str (z := z)) (fun i H' => Same H1 H' ∧ H' Z = some (.lst (((z.cps.toList.take i).filter fun c => !decide (c ∈ letters.cps.toList)).map sgn))) ?_ ?_ ?_ ?_
          · exact ⟨same_new hZ _, upd_same⟩
          · rintro i H2 _ _
            exact True.intro
          · rintro i x H2 H3 hi ⟨S2, hZ2⟩ ⟨rfl, c, hc, rfl⟩
            have hc' : z.cps.toList[i]? = some c := by rw [Array.getElem?_toList]; exact hc
            refine ⟨rfl, _, rfl, c, letters, rfl, rfl, _, rfl, ?_⟩
            have ef : ((z.cps.toList.take (i + 1)).filter fun c => !decide (c ∈ letters.cps.toList)).map sgn = ((z.cps.toList.take i).filter fun c => !decide (c ∈ letters.cps.toList)).map sgn ++ (if (!decide (c ∈ letters.cps.toList)) = true then [sgn c] else []) := by
              rw [List.take_add_one, hc']
              exact filt_snoc (fun c => !decide (c ∈ letters.cps.toList)) _ c
            cases hcl : (!decide (c ∈ letters.cps.toList)) with
            | true =>
              refine iteT ?_
              rw [hcl, if_pos rfl] at ef
              refine ⟨_, rfl, _, hZ2, small1000 ?_, S2.mutN hZ, ?_⟩
              · rw [List.length_map]
                have := List.length_filter_le (fun c => !decide (c ∈ letters.cps.toList)) (z.cps.toList.take i)
                rw [List.length_take] at this
                omega
              · rw [upd_same, ef]
                rfl
            | false =>
              refine iteF ?_
              rw [hcl, if_neg (by simp), List.append_nil] at ef
              exact ⟨S2, by rw [ef]; exact hZ2⟩
          · rintro H2 ⟨S2, hZ2⟩
            have e : z.cps.toList.take z.cps.size = z.cps.toList := List.take_of_length_le (by simp)
            rw [e] at hZ2
            refine ⟨by show 0 ≤ sizeLine; decide, fun r hr' => ?_⟩
            have S3 := same_new hr' (.lst [])
            refine ⟨Z, r, _, rfl, rfl, SqL.of (S3 _ _ hZ2), SqL.of upd_same, ?_⟩
            rw [none_out fun c => decide (c ∈ letters.cps.toList)]
            exact q1 _ (S2.trans S3)
      · rw [decide_eq_false h2] at q' ⊢
        refine iteT ?_
        exact q' _ (Same.refl _)
    · rw [decide_eq_false h1] at q' ⊢
      refine iteF ?_
      refine ⟨_, rfl, ?_⟩
      refine iteT ?_
      exact q' _ (Same.refl _)
end
end Nf


set_option Elab.async false
set_option linter.all false
set_option maxRecDepth 100000
namespace Nf
open PySem L2
section
variable {P : Program} {w : World} {K : PySem.W.Frag} {mg : Str → Option Value} {base : Heap} {f fn a1 a2 : Addr} {fd fnd d1 d2 : FuncData}
/-! ### the law's own words -/
theorem at0n {c : Nat} {r : List Nat} : atI (c :: r) 0 = some c := by
  unfold atI ixN
  rw [if_pos (by decide), if_pos (by simp)]
  rfl
theorem start0 {z : Str} {c : Nat} {r : List Nat} (h : z.cps.toList = c :: r) : Txt.startswith z "0" = decide (V.str ⟨#[c]⟩ = V.str "0") := by
  obtain ⟨⟨l⟩⟩ := z
  have hl : l = c :: r := h
  subst hl
  have e0 : (Str.ofString "0") = ⟨#[48]⟩ := by decide +kernel
  rw [e0]
  have e1 : (⟨c :: r⟩ : Array Nat).extract 0 1 = #[c] := by simp
  have e2 : Txt.startswith ⟨⟨c :: r⟩⟩ ⟨#[48]⟩ = (decide (0 + 1 ≤ (c :: r).length) && ((⟨c :: r⟩ : Array Nat).extract 0 1 == #[48])) := rfl
  rw [e2, e1]
  by_cases hc : c = 48
  · subst hc
    simp
  · have : ¬ (V.str ⟨#[c]⟩ = V.str ⟨#[48]⟩) := fun e => hc (by injection e with e; injection e with e; simpa using e)
    rw [decide_eq_false this]
    simp [hc]
abbrev s_is_new : Stmt := top 26
abbrev N_is_new : List Str := ["_law_thing", "_law_sign"]
abbrev P_is_new : List Str := ["_law_thing"]
theorem sc_is_new : FnScope N_is_new P_is_new (defScope s_is_new) := ⟨rfl, rfl, rfl, by decide +kernel, rfl, by decide +kernel, by decide +kernel⟩
theorem ok_lnew (T : Bt mg) (C_is_new : Cal K mg "_law_is_new" s_is_new P_is_new f fd) : FnOk P w K mg base CX0 1 f fd P_is_new (spNew (K := K)) := by
  refine C_is_new.F.ok sc_is_new (fun vs H Q E h => ?_) (fun cdv A outer s H vs Q E hr h => ?_)
  · obtain ⟨x, rfl, _⟩ := h
    rfl
  obtain ⟨x, rfl, hx, q⟩ := h
  refine ⟨_, PSs.nox (pss_cons (ps_if (PW.pt (pw_or (pt_not (pt_val (pe_callB call_isi (by rfl) T.t_isinstance (by decide +kernel) (pa_cons (pv 0) (pa_cons (pe_bltn (v := .ty "str") (by rfl) T.t_str (by decide +kernel) rfl) pa_nil))))) (pw_or (pt_not (pt_chain op_le op_le pe_int (pe_callB call_len_str (by rfl) T.t_len (by decide +kernel) (pa_cons (pv 0) pa_nil)) pe_int)) (pw_or1 (pt_cmpR op_eq (pe_ix ix_str (pv 0) pe_int (fun _ _ => rfl)) pe_str (nomark _)))))) (pss_one (ps_ret pe_bl)) pss_nil)
    (pss_one (ps_ret (pe_cmpR (op_eq_nil hr.units0) (pe_lc (own := [("_law_sign", 1)]) (g := gName 1) (by rfl) sc_is_new.nd (pi_str (pv 0)) (blkOk_by (own := [("_law_sign", 1)]) (N := N_is_new) (sc := defScope s_is_new) (by decide +kernel)) (fun _ _ _ _ _ => (pg_name (i := 1) sc_is_new.nd rfl (Or.inl rfl))) (fun _ _ _ _ _ => (pts_one (pt_cmpR op_notIn_sign (pv 1) pe_str (by rfl)))) (fun _ _ _ _ _ => (pv 1))) (pe_lst pa_nil) (nomark _))))), ?_⟩
  cases hx with
  | no n ty k =>
    rw [n.tx] at q
    refine ⟨_, rfl, _, _, _, _, false, rfl, .ty _, ty, kit_ty k, ?_⟩
    refine ⟨_, rfl, ?_⟩
    refine iteT ?_
    exact q _ (Same.refl _)
  | str z l =>
    have tx : TyX K H (.str z) (.type "str") := .base (.str z)
    refine ⟨_, rfl, _, _, _, _, true, rfl, .ty _, tx, kit_ty (by decide +kernel), ?_⟩
    refine ⟨_, rfl, ?_⟩
    refine iteF ?_
    have q' : ∀ H', Same H H' → Q (.bl ((decide (1 ≤ (z.length : Int)) && (decide ((z.length : Int) ≤ 3) && z.cps.toList.all fun c => decide (c ∈ figures.cps.toList))) && !Txt.startswith z "0")) H' := q
    refine ⟨_, rfl, z, rfl, Nat.le_of_lt (small1000 (by omega)), _, _, rfl, rfl, _, rfl, ?_⟩
    by_cases h1 : 1 ≤ (z.length : Int)
    · rw [decide_eq_true h1] at q' ⊢
      refine iteT ?_
      refine ⟨_, _, rfl, rfl, _, rfl, ?_⟩
      by_cases h2 : (z.length : Int) ≤ 3
      · rw [decide_eq_true h2] at q' ⊢
        refine iteF ?_
        obtain ⟨c, r, hzc⟩ : ∃ c r, z.cps.toList = c :: r := by
          cases hz : z.cps.toList with
          | nil =>
            have e1 : z.cps.size = 0 := by rw [← Array.length_toList, hz]; rfl
            have e2 : z.length = z.cps.size := rfl
            omega
          | cons c r => exact ⟨c, r, rfl⟩
        refine ⟨_, rfl, z, 0, c, rfl, rfl, Nat.le_of_lt (small1000 (by omega)), by rw [hzc]; exact at0n, rfl, _, rfl, ?_⟩
        have es := start0 hzc
        cases hin : Txt.startswith z "0" with
        | true =>
          rw [hin] at es
          refine ifBT es.symm ?_
          have := q' _ (Same.refl _)
          rw [hin, Bool.not_true, Bool.and_false] at this
          exact this
        | false =>
          rw [hin] at es
          refine ifBF es.symm ?_
          have q1 := q'
          rw [hin, Bool.not_false, Bool.and_true, Bool.true_and, Bool.true_and] at q1
          clear q q'
          refine ⟨_, rfl, z, rfl, fun Z hZ => ?_⟩
          have lz : z.cps.size ≤ 1000 := l
          refine lc_it (walk_str (z := z)) (fun i H' => Same H H' ∧ H' Z = some (.lst (((z.cps.toList.take i).filter fun c => !decide (c ∈ figures.cps.toList)).map sgn))) ?_ ?_ ?_ ?_
          · exact ⟨same_new hZ _, upd_same⟩
          · rintro i H2 _ _
            exact True.intro
          · rintro i x H2 H3 hi ⟨S2, hZ2⟩ ⟨rfl, c, hc, rfl⟩
            have hc' : z.cps.toList[i]? = some c := by rw [Array.getElem?_toList]; exact hc
            refine ⟨rfl, _, rfl, c, figures, rfl, rfl, _, rfl, ?_⟩
            have ef : ((z.cps.toList.take (i + 1)).filter fun c => !decide (c ∈ figures.cps.toList)).map sgn = ((z.cps.toList.take i).filter fun c => !decide (c ∈ figures.cps.toList)).map sgn ++ (if (!decide (c ∈ figures.cps.toList)) = true then [sgn c] else []) := by
              rw [List.take_add_one, hc']
              exact filt_snoc (fun c => !decide (c ∈ figures.cps.toList)) _ c
            cases hcl : (!decide (c ∈ figures.cps.toList)) with
            | true =>
              refine iteT ?_
              rw [hcl, if_pos rfl] at ef
              refine ⟨_, rfl, _, hZ2, small1000 ?_, S2.mutN hZ, ?_⟩
              · rw [List.length_map]
                have := List.length_filter_le (fun c => !decide (c ∈ figures.cps.toList)) (z.cps.toList.take i)
                rw [List.length_take] at this
                omega
              · rw [upd_same, ef]
                rfl
            | false =>
              refine iteF ?_
              rw [hcl, if_neg (by simp), List.append_nil] at ef
              exact ⟨S2, by rw [ef]; exact hZ2⟩
          · rintro H2 ⟨S2, hZ2⟩
            have e : z.cps.toList.take z.cps.size = z.cps.toList := List.take_of_length_le (by simp)
            rw [e] at hZ2
            refine ⟨by show 0 ≤ sizeLine; decide, fun r hr' => ?_⟩
            have S3 := same_new hr' (.lst [])
            refine ⟨Z, r, _, rfl, rfl, SqL.of (S3 _ _ hZ2), SqL.of upd_same, ?_⟩
            rw [none_out fun c => decide (c ∈ figures.cps.toList)]
            exact q1 _ (S2.trans S3)
      · rw [decide_eq_false h2] at q' ⊢
        refine iteT ?_
        exact q' _ (Same.refl _)
    · rw [decide_eq_false h1] at q' ⊢
      refine iteF ?_
      refine ⟨_, rfl, ?_⟩
      refine iteT ?_
      exact q' _ (Same.refl _)
end
end Nf


set_option Elab.async false
set_option linter.all false
set_option maxRecDepth 100000
namespace Nf
open PySem L2
section
variable {P : Program} {w : World} {K : PySem.W.Frag} {mg : Str → Option Value} {base : Heap} {f fn a1 a2 : Addr} {fd fnd d1 d2 : FuncData} {tL tF tm tn tp : Tok} {aK aE aT aP : Addr}
def Dx.txt : Dx → Option Str
  | .str z => some z
  | _ => none
def Dx.ps : Dx → Option (List Dx)
  | .tup ds => some ds
  | _ => none
theorem IsX.tx {H : Hp} {v : V} {d : Dx} (h : IsX H v d) : txOf v = d.txt := by cases h <;> rfl
theorem IsX.any {H : Hp} {v : V} {d : Dx} (h : IsX H v d) : Any K H v := by
  cases h with
  | non => exact .no (.inl rfl) (.base .non) (by decide +kernel)
  | bl b => exact .no (.inr (.inl ⟨b, rfl⟩)) (.base (.bl b)) (by decide +kernel)
  | int i => exact .no (.inr (.inr (.inl ⟨i, rfl⟩))) (.base (.int i)) (by decide +kernel)
  | str z l => exact .str z l
  | tup h _ => exact .no (.inr (.inr (.inr ⟨_, rfl, .inl ⟨_, SqT.of h⟩⟩))) (.base (.tup h)) (by decide +kernel)
  | lst h => exact .no (.inr (.inr (.inr ⟨_, rfl, .inr (.inl ⟨_, SqL.of h⟩)⟩))) (.base (.lst h)) (by decide +kernel)
  | dic h => exact .no (.inr (.inr (.inr ⟨_, rfl, .inr (.inr ⟨_, h⟩)⟩))) (.base (.dK h)) (by decide +kernel)
theorem eqS_of {H : Hp} {x : V} {d : Dx} {z : Str} {Q : VK} (h : IsX H x d) (q : Q (.bl (decide (d.txt = some z))) H) : rEqS K x (.str z) H Q := by
  refine ⟨z, rfl, ?_⟩
  cases (IsX.any (K := K) h) with
  | str z' l =>
    have e : d.txt = some z' := h.tx.symm
    rw [e] at q
    exact .inl ⟨z', rfl, by rw [show decide (z' = z) = decide (some z' = some z) by simp]; exact q⟩
  | no n ty k =>
    have e : d.txt = none := by rw [← h.tx]; exact n.tx
    rw [e, decide_eq_false (by simp)] at q
    exact .inr ⟨n, q⟩
def nodeB : Dx → Bool
  | .tup (d0 :: r) =>
    if d0.txt = some ("name" : Str) then decide (r.length = 1) && (wordOf ((r.getD 0 .non).txt) || newOf ((r.getD 0 .non).txt))
    else if d0.txt = some ("made" : Str) ∨ d0.txt = some ("call" : Str) then decide (r.length = 2) && (wordOf ((r.getD 0 .non).txt) && match (r.getD 1 .non).ps with
      | some ps => decide (ps.length ≤ 3)
      | none => false)
    else if d0.txt = some ("either" : Str) ∨ d0.txt = some ("same" : Str) then decide (r.length = 2)
    else decide (d0.txt = some ("skip" : Str)) && decide (r.length = 0)
  | _ => false
/-! ### is_node -/
abbrev s_is_node : Stmt := top 13
abbrev N_is_node : List Str := ["thing", "head"]
abbrev P_is_node : List Str := ["thing"]
theorem sc_is_node : FnScope N_is_node P_is_node (defScope s_is_node) := ⟨rfl, rfl, rfl, by decide +kernel, rfl, by decide +kernel, by decide +kernel⟩
def spNode : Sp := fun vs H Q _ => ∃ (x : V) (d : Dx), vs = [x] ∧ IsX H x d ∧ ∀ H', Same H H' → Q (.bl (nodeB d)) H'
theorem ok_node (T : Bt1 K mg tL tF tm tn tp aK aE aT aP) (C_is_node : Cal K mg "is_node" s_is_node P_is_node f fd)
    (C_is_word : Cal K mg "is_word" s_is_word P_is_word a1 d1) (G_is_word : FnOk P w K mg base CX0 2 a1 d1 P_is_word (spWord (K := K)))
    (C_is_new_name : Cal K mg "is_new_name" s_is_new_name P_is_new_name a2 d2) (G_is_new_name : FnOk P w K mg base CX0 2 a2 d2 P_is_new_name (spNew (K := K))) : FnOk P w K mg base CX0 3 f fd P_is_node spNode := by
  refine C_is_node.F.ok sc_is_node (fun vs H Q E h => ?_) (fun cdv A outer s H vs Q E hr h => ?_)
  · obtain ⟨x, d, rfl, _⟩ := h
    rfl
  obtain ⟨x, d, rfl, hx, q⟩ := h
  refine ⟨_, PSs.nox (pss_cons (ps_if (PW.pt (pw_or (pt_not (pt_val (pe_callB call_isi (by rfl) T.t_isinstance (by decide +kernel) (pa_cons (pv 0) (pa_cons (pe_bltn (v := .ty "tuple") (by rfl) T.t_tuple (by decide +kernel) rfl) pa_nil))))) (pw_or1 (pt_cmpR op_eq (pe_callB call_len_seq (by rfl) T.t_len (by decide +kernel) (pa_cons (pv 0) pa_nil)) pe_int (nomark _))))) (pss_one (ps_ret pe_bl)) pss_nil)
    (pss_cons (ps_set (i := 1) sc_is_node.nd rfl (Or.inl rfl) (pe_ix ix_tup (pv 0) pe_int (fun _ _ => rfl)))
    (pss_cons (ps_if (pt_cmpR (op_eqS hr.units0) (pv 1) pe_str (nomark _)) (pss_one (ps_ret (pe_and (pe_cmpR op_eq (pe_callB call_len_seq (by rfl) T.t_len (by decide +kernel) (pa_cons (pv 0) pa_nil)) pe_int (nomark _)) (pe_one (pe_or (pe_call G_is_word (hr.mono (by omega)) (by rfl) C_is_word.m C_is_word.F.kp C_is_word.b .nil pass0 (pa_cons (pe_ix ix_tup (pv 0) pe_int (fun _ _ => rfl)) pa_nil)) (pe_one (pe_call G_is_new_name (hr.mono (by omega)) (by rfl) C_is_new_name.m C_is_new_name.F.kp C_is_new_name.b .nil pass0 (pa_cons (pe_ix ix_tup (pv 0) pe_int (fun _ _ => rfl)) pa_nil)))))))) pss_nil)
    (pss_cons (ps_if (PW.pt (pw_or (pt_cmpR (op_eqS hr.units0) (pv 1) pe_str (nomark _)) (pw_or1 (pt_cmpR (op_eqS hr.units0) (pv 1) pe_str (nomark _))))) (pss_one (ps_ret (pe_and (pe_cmpR op_eq (pe_callB call_len_seq (by rfl) T.t_len (by decide +kernel) (pa_cons (pv 0) pa_nil)) pe_int (nomark _)) (pe_and (pe_call G_is_word (hr.mono (by omega)) (by rfl) C_is_word.m C_is_word.F.kp C_is_word.b .nil pass0 (pa_cons (pe_ix ix_tup (pv 0) pe_int (fun _ _ => rfl)) pa_nil)) (pe_and (pe_callB call_isi (by rfl) T.t_isinstance (by decide +kernel) (pa_cons (pe_ix ix_tup (pv 0) pe_int (fun _ _ => rfl)) (pa_cons (pe_bltn (v := .ty "tuple") (by rfl) T.t_tuple (by decide +kernel) rfl) pa_nil))) (pe_one (pe_cmpR op_le (pe_callB call_len_seq (by rfl) T.t_len (by decide +kernel) (pa_cons (pe_ix ix_tup (pv 0) pe_int (fun _ _ => rfl)) pa_nil)) (pe_glob (v := .int _) (by rfl) T.g_MOST_PARTS ⟨_, rfl⟩) (nomark _)))))))) pss_nil)
    (pss_cons (ps_if (PW.pt (pw_or (pt_cmpR (op_eqS hr.units0) (pv 1) pe_str (nomark _)) (pw_or1 (pt_cmpR (op_eqS hr.units0) (pv 1) pe_str (nomark _))))) (pss_one (ps_ret (pe_cmpR op_eq (pe_callB call_len_seq (by rfl) T.t_len (by decide +kernel) (pa_cons (pv 0) pa_nil)) pe_int (nomark _)))) pss_nil)
    (pss_one (ps_ret (pe_and (pe_cmpR (op_eqS hr.units0) (pv 1) pe_str (nomark _)) (pe_one (pe_cmpR op_eq (pe_callB call_len_seq (by rfl) T.t_len (by decide +kernel) (pa_cons (pv 0) pa_nil)) pe_int (nomark _))))))))))), ?_⟩
  cases hx with
  | @tup a xs ds ha hs =>
    have tx : TyX K H (.ref a) (.type "tuple") := .base (.tup ha)
    refine ⟨_, rfl, _, _, _, _, true, rfl, .ty _, tx, kit_ty (by decide +kernel), ?_⟩
    refine ⟨_, rfl, ?_⟩
    refine iteF ?_
    refine ⟨_, rfl, a, _, rfl, .inr (SqT.of ha), rfl, _, rfl, ?_⟩
    cases hs with
    | nil =>
      refine ifT rfl ?_
      exact q _ (Same.refl _)
    | @cons x0 d0 xr r h0 hr0 =>
      refine ifF (fun e => by have := V.int.inj e; simp at this; omega) ?_
      have lr := hr0.len
      refine ⟨_, rfl, a, _, _, x0, rfl, rfl, SqT.of ha, at0, ?_⟩
      refine ⟨_, rfl, ?_⟩
      dsimp only [tC]
      refine eqS_of (z := "name") h0 ?_
      refine ⟨_, rfl, ?_⟩
      by_cases hn : d0.txt = some ("name" : Str)
      · rw [decide_eq_true hn]
        have q1 : ∀ H', Same H H' → Q (.bl (decide (r.length = 1) && (wordOf ((r.getD 0 .non).txt) || newOf ((r.getD 0 .non).txt)))) H' := fun H' S' => by
          have := q H' S'
          unfold nodeB at this
          dsimp only at this
          rw [if_pos hn] at this
          exact this
        refine iteT ?_
        refine ⟨_, rfl, a, _, rfl, .inr (SqT.of ha), rfl, _, rfl, ?_⟩
        by_cases hl : r.length = 1
        · rw [decide_eq_true (congrArg V.int (show (((x0 :: xr).length : Nat) : Int) = 2 by simp only [List.length_cons]; omega))]
          refine iteT ?_
          cases hr0 with
          | nil => simp at hl
          | @cons x1 e1 xr' r' h1 hr1 =>
            cases hr1 with
            | cons _ _ => simp at hl
            | nil =>
              refine ⟨_, rfl, a, _, _, x1, rfl, rfl, SqT.of ha, rfl, x1, rfl, h1.any, fun H1 S1 => ⟨_, rfl, ?_⟩⟩
              have q2 : ∀ H', Same H H' → Q (.bl (wordOf (txOf x1) || newOf (txOf x1))) H' := fun H' S' => by
                have := q1 H' S'
                rw [h1.tx]
                exact this
              cases hw : wordOf (txOf x1) with
              | true =>
                refine iteT ?_
                have := q2 _ S1
                rw [hw] at this
                exact this
              | false =>
                refine iteF ?_
                refine ⟨_, rfl, a, _, _, x1, rfl, rfl, SqT.of (S1 _ _ ha), rfl, x1, rfl, (h1.mono (KindS.of_same S1)).any, fun H2 S2 => ?_⟩
                have := q2 _ (S1.trans S2)
                rw [hw, Bool.false_or] at this
                exact this
        · rw [decide_eq_false (fun e => hl (by have := V.int.inj e; simp only [List.length_cons] at this; omega))]
          refine iteF ?_
          have := q1 _ (Same.refl _)
          rw [decide_eq_false hl] at this
          exact this
      · rw [decide_eq_false hn]
        refine iteF ?_
        refine ⟨_, rfl, ?_⟩
        dsimp only [tC]
        refine eqS_of (z := "made") h0 ?_
        refine ⟨_, rfl, ?_⟩
        by_cases hm : d0.txt = some ("made" : Str)
        · rw [decide_eq_true hm]
          refine iteT ?_
          refine iteT ?_
          have qm : ∀ H', Same H H' → Q (.bl (decide (r.length = 2) && (wordOf ((r.getD 0 .non).txt) && match (r.getD 1 .non).ps with
              | some ps => decide (ps.length ≤ 3)
              | none => false))) H' := fun H' S' => by
            have := q H' S'
            unfold nodeB at this
            dsimp only at this
            rw [if_neg hn, if_pos (.inl hm)] at this
            exact this
          refine ⟨_, rfl, a, _, rfl, .inr (SqT.of ha), rfl, _, rfl, ?_⟩
          by_cases hl : r.length = 2
          · rw [decide_eq_true (congrArg V.int (show (((x0 :: xr).length : Nat) : Int) = 3 by simp only [List.length_cons]; omega))]
            refine iteT ?_
            cases hr0 with
            | nil => simp at hl
            | @cons x1 e1 xr' r' h1 hr1 =>
              cases hr1 with
              | nil => simp at hl
              | @cons x2 e2 xr2 r2 h2 hr2 =>
                cases hr2 with
                | cons _ _ => simp at hl
                | nil =>
                  refine ⟨_, rfl, a, _, _, x1, rfl, rfl, SqT.of ha, rfl, x1, rfl, h1.any, fun H1 S1 => ⟨_, rfl, ?_⟩⟩
                  have q2 : ∀ H', Same H H' → Q (.bl (wordOf (txOf x1) && match e2.ps with
                      | some ps => decide (ps.length ≤ 3)
                      | none => false)) H' := fun H' S' => by
                    have := qm H' S'
                    rw [h1.tx]
                    exact this
                  cases hw : wordOf (txOf x1) with
                  | false =>
                    refine iteF ?_
                    have := q2 _ S1
                    rw [hw] at this
                    exact this
                  | true =>
                    refine iteT ?_
                    rw [hw, Bool.true_and] at q2
                    refine ⟨_, rfl, a, _, _, x2, rfl, rfl, SqT.of (S1 _ _ ha), rfl, ?_⟩
                    have h2' := h2.mono (KindS.of_same S1)
                    clear h2
                    cases h2' with
                    | @tup b ys es hb hes =>
                      refine ⟨_, _, _, _, true, rfl, .ty _, .base (.tup hb), kit_ty (by decide +kernel), _, rfl, ?_⟩
                      refine iteT ?_
                      refine ⟨_, rfl, a, _, _, _, rfl, rfl, SqT.of (S1 _ _ ha), rfl, b, _, rfl, .inr (SqT.of hb), _, _, rfl, rfl, ?_⟩
                      have := q2 _ S1
                      have el := hes.len
                      have e3 : decide (((ys.length : Nat) : Int) ≤ 3) = decide (es.length ≤ 3) := by rw [el]; exact decide_eq_decide.mpr (by omega)
                      have t3 : Q (.bl (decide (((ys.length : Nat) : Int) ≤ 3))) H1 := by rw [e3]; exact this
                      exact t3
                    | non => exact ⟨_, _, _, _, false, rfl, .ty _, .base .non, kit_ty (by decide +kernel), _, rfl, iteF (q2 _ S1)⟩
                    | bl b => exact ⟨_, _, _, _, false, rfl, .ty _, .base (.bl b), kit_ty (by decide +kernel), _, rfl, iteF (q2 _ S1)⟩
                    | int i => exact ⟨_, _, _, _, false, rfl, .ty _, .base (.int i), kit_ty (by decide +kernel), _, rfl, iteF (q2 _ S1)⟩
                    | str z l => exact ⟨_, _, _, _, false, rfl, .ty _, .base (.str z), kit_ty (by decide +kernel), _, rfl, iteF (q2 _ S1)⟩
                    | lst h => exact ⟨_, _, _, _, false, rfl, .ty _, .base (.lst h), kit_ty (by decide +kernel), _, rfl, iteF (q2 _ S1)⟩
                    | dic h => exact ⟨_, _, _, _, false, rfl, .ty _, .base (.dK h), kit_ty (by decide +kernel), _, rfl, iteF (q2 _ S1)⟩
          · rw [decide_eq_false (fun e => hl (by have := V.int.inj e; simp only [List.length_cons] at this; omega))]
            refine iteF ?_
            have := qm _ (Same.refl _)
            rw [decide_eq_false hl] at this
            exact this
        · rw [decide_eq_false hm]
          refine iteF ?_
          refine ⟨_, rfl, ?_⟩
          dsimp only [tC]
          refine eqS_of (z := "call") h0 ?_
          refine ⟨_, rfl, ?_⟩
          by_cases hc : d0.txt = some ("call" : Str)
          · rw [decide_eq_true hc]
            refine iteT ?_
            have qm : ∀ H', Same H H' → Q (.bl (decide (r.length = 2) && (wordOf ((r.getD 0 .non).txt) && match (r.getD 1 .non).ps with
                | some ps => decide (ps.length ≤ 3)
                | none => false))) H' := fun H' S' => by
              have := q H' S'
              unfold nodeB at this
              dsimp only at this
              rw [if_neg hn, if_pos (.inr hc)] at this
              exact this
            refine ⟨_, rfl, a, _, rfl, .inr (SqT.of ha), rfl, _, rfl, ?_⟩
            by_cases hl : r.length = 2
            · rw [decide_eq_true (congrArg V.int (show (((x0 :: xr).length : Nat) : Int) = 3 by simp only [List.length_cons]; omega))]
              refine iteT ?_
              cases hr0 with
              | nil => simp at hl
              | @cons x1 e1 xr' r' h1 hr1 =>
                cases hr1 with
                | nil => simp at hl
                | @cons x2 e2 xr2 r2 h2 hr2 =>
                  cases hr2 with
                  | cons _ _ => simp at hl
                  | nil =>
                    refine ⟨_, rfl, a, _, _, x1, rfl, rfl, SqT.of ha, rfl, x1, rfl, h1.any, fun H1 S1 => ⟨_, rfl, ?_⟩⟩
                    have q2 : ∀ H', Same H H' → Q (.bl (wordOf (txOf x1) && match e2.ps with
                        | some ps => decide (ps.length ≤ 3)
                        | none => false)) H' := fun H' S' => by
                      have := qm H' S'
                      rw [h1.tx]
                      exact this
                    cases hw : wordOf (txOf x1) with
                    | false =>
                      refine iteF ?_
                      have := q2 _ S1
                      rw [hw] at this
                      exact this
                    | true =>
                      refine iteT ?_
                      rw [hw, Bool.true_and] at q2
                      refine ⟨_, rfl, a, _, _, x2, rfl, rfl, SqT.of (S1 _ _ ha), rfl, ?_⟩
                      have h2' := h2.mono (KindS.of_same S1)
                      clear h2
                      cases h2' with
                      | @tup b ys es hb hes =>
                        refine ⟨_, _, _, _, true, rfl, .ty _, .base (.tup hb), kit_ty (by decide +kernel), _, rfl, ?_⟩
                        refine iteT ?_
                        refine ⟨_, rfl, a, _, _, _, rfl, rfl, SqT.of (S1 _ _ ha), rfl, b, _, rfl, .inr (SqT.of hb), _, _, rfl, rfl, ?_⟩
                        have := q2 _ S1
                        have el := hes.len
                        have e3 : decide (((ys.length : Nat) : Int) ≤ 3) = decide (es.length ≤ 3) := by rw [el]; exact decide_eq_decide.mpr (by omega)
                        have t3 : Q (.bl (decide (((ys.length : Nat) : Int) ≤ 3))) H1 := by rw [e3]; exact this
                        exact t3
                      | non => exact ⟨_, _, _, _, false, rfl, .ty _, .base .non, kit_ty (by decide +kernel), _, rfl, iteF (q2 _ S1)⟩
                      | bl b => exact ⟨_, _, _, _, false, rfl, .ty _, .base (.bl b), kit_ty (by decide +kernel), _, rfl, iteF (q2 _ S1)⟩
                      | int i => exact ⟨_, _, _, _, false, rfl, .ty _, .base (.int i), kit_ty (by decide +kernel), _, rfl, iteF (q2 _ S1)⟩
                      | str z l => exact ⟨_, _, _, _, false, rfl, .ty _, .base (.str z), kit_ty (by decide +kernel), _, rfl, iteF (q2 _ S1)⟩
                      | lst h => exact ⟨_, _, _, _, false, rfl, .ty _, .base (.lst h), kit_ty (by decide +kernel), _, rfl, iteF (q2 _ S1)⟩
                      | dic h => exact ⟨_, _, _, _, false, rfl, .ty _, .base (.dK h), kit_ty (by decide +kernel), _, rfl, iteF (q2 _ S1)⟩
            · rw [decide_eq_false (fun e => hl (by have := V.int.inj e; simp only [List.length_cons] at this; omega))]
              refine iteF ?_
              have := qm _ (Same.refl _)
              rw [decide_eq_false hl] at this
              exact this
          · rw [decide_eq_false hc]
            refine iteF ?_
            refine ⟨_, rfl, ?_⟩
            dsimp only [tC]
            refine eqS_of (z := "either") h0 ?_
            refine ⟨_, rfl, ?_⟩
            by_cases he : d0.txt = some ("either" : Str)
            · rw [decide_eq_true he]
              refine iteT ?_
              refine iteT ?_
              have qe : ∀ H', Same H H' → Q (.bl (decide (r.length = 2))) H' := fun H' S' => by
                have := q H' S'
                unfold nodeB at this
                dsimp only at this
                rw [if_neg hn, if_neg (fun z => z.elim hm hc), if_pos (.inl he)] at this
                exact this
              refine ⟨_, rfl, a, _, rfl, .inr (SqT.of ha), rfl, ?_⟩
              have e2 : decide (V.int (((x0 :: xr).length : Nat) : Int) = V.int 3) = decide (r.length = 2) := decide_eq_decide.mpr ⟨fun e => by have := V.int.inj e; simp only [List.length_cons] at this; omega, fun e => congrArg V.int (by simp only [List.length_cons]; omega)⟩
              have t2 : Q (.bl (decide (V.int (((x0 :: xr).length : Nat) : Int) = V.int 3))) H := by rw [e2]; exact qe _ (Same.refl _)
              exact t2
            · rw [decide_eq_false he]
              refine iteF ?_
              refine ⟨_, rfl, ?_⟩
              dsimp only [tC]
              refine eqS_of (z := "same") h0 ?_
              refine ⟨_, rfl, ?_⟩
              by_cases hsm : d0.txt = some ("same" : Str)
              · rw [decide_eq_true hsm]
                refine iteT ?_
                have qe : ∀ H', Same H H' → Q (.bl (decide (r.length = 2))) H' := fun H' S' => by
                  have := q H' S'
                  unfold nodeB at this
                  dsimp only at this
                  rw [if_neg hn, if_neg (fun z => z.elim hm hc), if_pos (.inr hsm)] at this
                  exact this
                refine ⟨_, rfl, a, _, rfl, .inr (SqT.of ha), rfl, ?_⟩
                have e2 : decide (V.int (((x0 :: xr).length : Nat) : Int) = V.int 3) = decide (r.length = 2) := decide_eq_decide.mpr ⟨fun e => by have := V.int.inj e; simp only [List.length_cons] at this; omega, fun e => congrArg V.int (by simp only [List.length_cons]; omega)⟩
                have t2 : Q (.bl (decide (V.int (((x0 :: xr).length : Nat) : Int) = V.int 3))) H := by rw [e2]; exact qe _ (Same.refl _)
                exact t2
              · rw [decide_eq_false hsm]
                refine iteF ?_
                have qs : ∀ H', Same H H' → Q (.bl (decide (d0.txt = some ("skip" : Str)) && decide (r.length = 0))) H' := fun H' S' => by
                  have := q H' S'
                  unfold nodeB at this
                  dsimp only at this
                  rw [if_neg hn, if_neg (fun z => z.elim hm hc), if_neg (fun z => z.elim he hsm)] at this
                  exact this
                refine ⟨_, rfl, ?_⟩
                dsimp only [tC]
                refine eqS_of (z := "skip") h0 ?_
                refine ⟨_, rfl, ?_⟩
                by_cases hk : d0.txt = some ("skip" : Str)
                · rw [decide_eq_true hk] at qs ⊢
                  refine iteT ?_
                  refine ⟨_, rfl, a, _, rfl, .inr (SqT.of ha), rfl, ?_⟩
                  have e2 : decide (V.int (((x0 :: xr).length : Nat) : Int) = V.int 1) = decide (r.length = 0) := decide_eq_decide.mpr ⟨fun e => by have := V.int.inj e; simp only [List.length_cons] at this; omega, fun e => congrArg V.int (by simp only [List.length_cons]; omega)⟩
                  have t2 : Q (.bl (decide (V.int (((x0 :: xr).length : Nat) : Int) = V.int 1))) H := by rw [e2]; exact qs _ (Same.refl _)
                  exact t2
                · rw [decide_eq_false hk] at qs ⊢
                  refine iteF ?_
                  exact qs _ (Same.refl _)
  | non =>
    refine ⟨_, rfl, _, _, _, _, false, rfl, .ty _, .base .non, kit_ty (by decide +kernel), ?_⟩
    exact ⟨_, rfl, iteT (q _ (Same.refl _))⟩
  | bl b =>
    refine ⟨_, rfl, _, _, _, _, false, rfl, .ty _, .base (.bl b), kit_ty (by decide +kernel), ?_⟩
    exact ⟨_, rfl, iteT (q _ (Same.refl _))⟩
  | int i =>
    refine ⟨_, rfl, _, _, _, _, false, rfl, .ty _, .base (.int i), kit_ty (by decide +kernel), ?_⟩
    exact ⟨_, rfl, iteT (q _ (Same.refl _))⟩
  | str z l =>
    refine ⟨_, rfl, _, _, _, _, false, rfl, .ty _, .base (.str z), kit_ty (by decide +kernel), ?_⟩
    exact ⟨_, rfl, iteT (q _ (Same.refl _))⟩
  | lst h =>
    refine ⟨_, rfl, _, _, _, _, false, rfl, .ty _, .base (.lst h), kit_ty (by decide +kernel), ?_⟩
    exact ⟨_, rfl, iteT (q _ (Same.refl _))⟩
  | dic h =>
    refine ⟨_, rfl, _, _, _, _, false, rfl, .ty _, .base (.dK h), kit_ty (by decide +kernel), ?_⟩
    exact ⟨_, rfl, iteT (q _ (Same.refl _))⟩
end
end Nf


set_option Elab.async false
set_option linter.all false
set_option maxRecDepth 100000
namespace Nf
open PySem L2
section
variable {P : Program} {w : World} {K : PySem.W.Frag} {mg : Str → Option Value} {base : Heap} {f fn a1 a2 : Addr} {fd fnd d1 d2 : FuncData} {tL tF tm tn tp : Tok} {aK aE aT aP : Addr}
/-- a node by its form: its head, its parts -/
inductive NdX : Dx → Str → List Dx → Prop where
  | name {x : Dx} : NdX (.tup [.str "name", x]) "name" []
  | app {c : Bool} {x : Dx} {ps : List Dx} (h : ps.length ≤ 3) : NdX (.tup [.str (hApp c), x, .tup ps]) (hApp c) ps
  | two {c : Bool} {x y : Dx} : NdX (.tup [.str (hTwo c), x, y]) (hTwo c) [x, y]
  | skip : NdX (.tup [.str "skip"]) "skip" []
theorem txt_some {d : Dx} {z : Str} (h : d.txt = some z) : d = .str z := by
  cases d with
  | str z' => cases h; rfl
  | _ => cases h
theorem node_inv {d : Dx} (h : nodeB d = true) : ∃ hd ps, NdX d hd ps := by
  cases d with
  | tup ds =>
    cases ds with
    | nil => cases h
    | cons d0 r =>
      unfold nodeB at h
      dsimp only at h
      by_cases hn : d0.txt = some ("name" : Str)
      · rw [if_pos hn, Bool.and_eq_true] at h
        cases txt_some hn
        match r, of_decide_eq_true h.1 with
        | [x], _ => exact ⟨_, _, .name⟩
      · rw [if_neg hn] at h
        by_cases hm : d0.txt = some ("made" : Str) ∨ d0.txt = some ("call" : Str)
        · rw [if_pos hm, Bool.and_eq_true, Bool.and_eq_true] at h
          match r, of_decide_eq_true h.1, h.2.2 with
          | [x, .tup ps], _, hp =>
            rcases hm with e | e
            · cases txt_some e
              exact ⟨_, _, .app (c := false) (of_decide_eq_true hp)⟩
            · cases txt_some e
              exact ⟨_, _, .app (c := true) (of_decide_eq_true hp)⟩
        · rw [if_neg hm] at h
          by_cases he : d0.txt = some ("either" : Str) ∨ d0.txt = some ("same" : Str)
          · rw [if_pos he] at h
            match r, of_decide_eq_true h with
            | [x, y], _ =>
              rcases he with e | e
              · cases txt_some e
                exact ⟨_, _, .two (c := false)⟩
              · cases txt_some e
                exact ⟨_, _, .two (c := true)⟩
          · rw [if_neg he, Bool.and_eq_true] at h
            cases txt_some (of_decide_eq_true h.1)
            match r, of_decide_eq_true h.2 with
            | [], _ => exact ⟨_, _, .skip⟩
  | _ => cases h
end
end Nf


set_option Elab.async false
set_option linter.all false
set_option maxRecDepth 100000
namespace Nf
open PySem L2
section
variable {P : Program} {w : World} {K : PySem.W.Frag} {mg : Str → Option Value} {base : Heap} {f fn a1 a2 : Addr} {fd fnd d1 d2 : FuncData} {tL tF tm tn tp : Tok} {aK aE aT aP : Addr}
/-! ### parts_of, of a node -/
theorem isX_tup {H : Hp} {v : V} {ds : List Dx} (h : IsX H v (.tup ds)) : ∃ a xs, v = .ref a ∧ H a = some (.tup xs) ∧ IsXA H xs ds := by
  cases h with
  | tup h hs => exact ⟨_, _, rfl, h, hs⟩
theorem isXA_cons {H : Hp} {xs : List V} {d : Dx} {ds : List Dx} (h : IsXA H xs (d :: ds)) : ∃ x r, xs = x :: r ∧ IsX H x d ∧ IsXA H r ds := by
  cases h with
  | cons h hs => exact ⟨_, _, rfl, h, hs⟩
theorem isX_str {H : Hp} {v : V} {z : Str} (h : IsX H v (.str z)) : v = .str z := by
  cases h; rfl
theorem ndx_head {H : Hp} {v : V} {d : Dx} {hd : Str} {ps : List Dx} (n : NdX d hd ps) (h : IsX H v d) : ∃ a r, v = .ref a ∧ H a = some (.tup (.str hd :: r)) := by
  cases n <;> (obtain ⟨a, xs, rfl, ha, hs⟩ := isX_tup h; obtain ⟨x, r, rfl, hx, _⟩ := isXA_cons hs; cases isX_str hx; exact ⟨a, r, rfl, ha⟩)
abbrev s_parts_of : Stmt := top 14
abbrev N_parts_of : List Str := ["node"]
abbrev P_parts_of : List Str := ["node"]
theorem sc_parts_of : FnScope N_parts_of P_parts_of (defScope s_parts_of) := ⟨rfl, rfl, rfl, by decide +kernel, rfl, by decide +kernel, by decide +kernel⟩
def spPartsX : Sp := fun vs H Q _ => ∃ (v : V) (d : Dx) (hd : Str) (ps : List Dx), vs = [v] ∧ IsX H v d ∧ NdX d hd ps ∧ ∀ b xs H', Same H H' → H' b = some (.tup xs) → IsXA H' xs ps → Q (.ref b) H'
theorem ok_partsX (T : Bt mg) (C_parts_of : Cal K mg "parts_of" s_parts_of P_parts_of f fd) : FnOk P w K mg base CX0 1 f fd P_parts_of spPartsX := by
  refine C_parts_of.F.ok sc_parts_of (fun vs H Q E h => ?_) (fun cdv A outer s H vs Q E hr h => ?_)
  · obtain ⟨v, d, hd, ps, rfl, _⟩ := h
    rfl
  obtain ⟨v, d, hd, ps, rfl, hv, hn, q⟩ := h
  refine ⟨_, PSs.nox (pss_cons (ps_if (pt_cmpR op_in_seq (pe_ix ix_tup (pv 0) pe_int (fun _ _ => rfl)) (pe_tup (pa_cons pe_str (pa_cons pe_str pa_nil))) (by rfl)) (pss_one (ps_ret (pe_ix ix_tup (pv 0) pe_int (fun _ _ => rfl)))) pss_nil)
    (pss_cons (ps_if (pt_cmpR op_in_seq (pe_ix ix_tup (pv 0) pe_int (fun _ _ => rfl)) (pe_tup (pa_cons pe_str (pa_cons pe_str pa_nil))) (by rfl)) (pss_one (ps_ret (pe_slice sl_tupA (pv 0) (po_some pe_int) po_none))) pss_nil)
    (pss_one (ps_ret (pe_tup pa_nil))))), ?_⟩
  obtain ⟨a, r, rfl, ha⟩ := ndx_head hn hv
  refine ⟨_, rfl, a, _, _, .str hd, rfl, rfl, SqT.of ha, at0, by show 2 ≤ sizeLine; decide, fun p hp => ⟨p, _, rfl, .inr (SqT.of upd_same), rfl, rfl, _, rfl, ?_⟩⟩
  have S1 := same_new hp (.tup [.str "made", .str "call"])
  have hv1 := hv.mono (KindS.of_same S1)
  have ha1 := S1 _ _ ha
  generalize upd H p (.tup [.str "made", .str "call"]) = H1 at S1 hv1 ha1
  cases hn with
  | @app c x ps h3 =>
    refine ifBT (in_mc (.app c "" [])) ?_
    obtain ⟨a', xs, e, h1, hs⟩ := isX_tup hv1
    cases e
    obtain ⟨x0, r0, rfl, _, hs⟩ := isXA_cons hs
    obtain ⟨x1, r1, rfl, _, hs⟩ := isXA_cons hs
    obtain ⟨x2, r2, rfl, h2, hs⟩ := isXA_cons hs
    cases hs
    obtain ⟨b, ys, rfl, hb, hys⟩ := isX_tup h2
    refine ⟨_, rfl, _, _, _, _, rfl, rfl, SqT.of h1, rfl, ?_⟩
    exact q b ys H1 S1 hb hys
  | @two c x y =>
    refine ifBF (in_mc (.two c .skip .skip)) ?_
    refine ⟨_, rfl, a, _, _, _, rfl, rfl, SqT.of ha1, at0, by show 2 ≤ sizeLine; decide, fun p2 hp2 => ⟨p2, _, rfl, .inr (SqT.of upd_same), rfl, rfl, _, rfl, ?_⟩⟩
    refine ifBT (in_es (.two c .skip .skip)) ?_
    have S2 := S1.new hp2 (o := .tup [.str "either", .str "same"])
    have hv2 := hv.mono (KindS.of_same S2)
    generalize upd H1 p2 (.tup [.str "either", .str "same"]) = H2 at S2 hv2
    obtain ⟨a', xs, e, h1, hs⟩ := isX_tup hv2
    cases e
    obtain ⟨x0, r0, rfl, _, hs⟩ := isXA_cons hs
    refine ⟨_, rfl, _, rfl, sl_any h1 fun p3 H3 S3 h4 => ?_⟩
    rw [cut_from1] at h4
    exact q p3 _ H3 (S2.trans S3) h4 (hs.mono (KindS.of_same S3))
  | name =>
    refine ifBF (by decide) ?_
    refine ⟨_, rfl, a, _, _, _, rfl, rfl, SqT.of ha1, at0, by show 2 ≤ sizeLine; decide, fun p2 hp2 => ⟨p2, _, rfl, .inr (SqT.of upd_same), rfl, rfl, _, rfl, ?_⟩⟩
    refine ifBF (by decide) ?_
    have S2 := S1.new hp2 (o := .tup [.str "either", .str "same"])
    refine ⟨by show 0 ≤ sizeLine; decide, fun p3 hp3 => ?_⟩
    exact q p3 [] _ (S2.new hp3) upd_same .nil
  | skip =>
    refine ifBF (by decide) ?_
    refine ⟨_, rfl, a, _, _, _, rfl, rfl, SqT.of ha1, at0, by show 2 ≤ sizeLine; decide, fun p2 hp2 => ⟨p2, _, rfl, .inr (SqT.of upd_same), rfl, rfl, _, rfl, ?_⟩⟩
    refine ifBF (by decide) ?_
    have S2 := S1.new hp2 (o := .tup [.str "either", .str "same"])
    refine ⟨by show 0 ≤ sizeLine; decide, fun p3 hp3 => ?_⟩
    exact q p3 [] _ (S2.new hp3) upd_same .nil
end
end Nf


set_option Elab.async false
set_option linter.all false
set_option maxRecDepth 100000
namespace Nf
open PySem L2
section
variable {P : Program} {w : World} {K : PySem.W.Frag} {mg : Str → Option Value} {base : Heap} {f fn a1 a2 : Addr} {fd fnd d1 d2 : FuncData} {tL tF tm tn tp : Tok} {aK aE aT aP : Addr}
/-! ### sayings among data of any kind -/
def Dx.hd : Dx → Option Str
  | .tup (d0 :: _) => d0.txt
  | _ => none
def Dx.kids : Dx → List Dx
  | .tup (d0 :: r) => if d0.txt = some ("made" : Str) ∨ d0.txt = some ("call" : Str) then ((r.getD 1 .non).ps).getD [] else if d0.txt = some ("either" : Str) ∨ d0.txt = some ("same" : Str) then r else []
  | _ => []
def Dx.ok (b : Nat) : Nat → Dx → Prop
  | 0, _ => False
  | n + 1, .tup ds => ds.length ≤ b ∧ ∀ d ∈ ds, Dx.ok b n d
  | _ + 1, .str z => z.length ≤ b
  | _ + 1, _ => True
theorem Dx.ok_mono {b c : Nat} (hbc : b ≤ c) : ∀ {n m : Nat} {d : Dx}, n ≤ m → Dx.ok b n d → Dx.ok c m d
  | 0, _, _, _, h => h.elim
  | _ + 1, 0, _, h, _ => absurd h (by omega)
  | n + 1, m + 1, .tup ds, hm, h => ⟨Nat.le_trans h.1 hbc, fun d hd => Dx.ok_mono hbc (by omega) (h.2 d hd)⟩
  | n + 1, m + 1, .str _, _, h => Nat.le_trans h hbc
  | n + 1, m + 1, .non, _, _ => True.intro
  | n + 1, m + 1, .bl _, _, _ => True.intro
  | n + 1, m + 1, .int _, _, _ => True.intro
  | n + 1, m + 1, .lst, _, _ => True.intro
  | n + 1, m + 1, .dic, _, _ => True.intro
def hdIn (hs : List Str) (d : Dx) : Bool := match d.hd with
  | some z => decide (z ∈ hs)
  | none => false
def sayN (hs : List Str) : Nat → Dx → Bool
  | 0, _ => false
  | n + 1, d => nodeB d && (hdIn hs d && d.kids.all (sayN hs n))
theorem NdX.hd {d : Dx} {hd : Str} {ps : List Dx} (h : NdX d hd ps) : d.hd = some hd := by cases h <;> rfl
theorem NdX.kids {d : Dx} {hd : Str} {ps : List Dx} (h : NdX d hd ps) : d.kids = ps := by
  cases h with
  | name => rfl
  | @app c x ps h => cases c <;> rfl
  | @two c x y => cases c <;> rfl
  | skip => rfl
/-- the parts of a node lie less deep -/
theorem NdX.ok {b n : Nat} {d : Dx} {hd : Str} {ps : List Dx} (h : NdX d hd ps) (ho : Dx.ok b (n + 1) d) : (ps.length ≤ 2 ∧ ∀ p ∈ ps, Dx.ok b n p) ∨ (ps.length ≤ 3 ∧ ∃ m, n = m + 1 ∧ ∀ p ∈ ps, Dx.ok b m p) := by
  cases h with
  | name => exact .inl ⟨by simp, by simp⟩
  | skip => exact .inl ⟨by simp, by simp⟩
  | two =>
    refine .inl ⟨by simp, fun p hp => ho.2 p ?_⟩
    simp only [List.mem_cons, List.not_mem_nil, or_false] at hp ⊢
    exact .inr hp
  | @app c x ps h =>
    refine .inr ⟨h, ?_⟩
    have h2 := ho.2 (.tup ps) (by simp)
    cases n with
    | zero => exact h2.elim
    | succ m => exact ⟨m, rfl, h2.2⟩
theorem NdX.ok' {b n : Nat} {d : Dx} {hd : Str} {ps : List Dx} (h : NdX d hd ps) (ho : Dx.ok b (n + 1) d) : ∀ p ∈ ps, Dx.ok b n p := by
  rcases h.ok ho with h | ⟨_, m, rfl, h⟩
  · exact h.2
  · exact fun p hp => Dx.ok_mono (Nat.le_refl _) (by omega) (h p hp)
theorem all_congr {α : Type} {p q : α → Bool} : ∀ {l : List α}, (∀ x ∈ l, p x = q x) → l.all p = l.all q
  | [], _ => rfl
  | x :: r, h => by
    rw [List.all_cons, List.all_cons, h x (by simp), all_congr fun y hy => h y (by simp [hy])]
theorem sayN_mono {hs : List Str} {b : Nat} : ∀ {k m : Nat} {d : Dx}, Dx.ok b k d → k ≤ m → sayN hs m d = sayN hs k d
  | 0, _, _, h, _ => h.elim
  | _ + 1, 0, _, _, h => absurd h (by omega)
  | k + 1, m + 1, d, h, hm => by
    unfold sayN
    cases hn : nodeB d with
    | false => rfl
    | true =>
      obtain ⟨hd, ps, nd⟩ := node_inv hn
      rw [nd.kids, all_congr fun p hp => sayN_mono (hs := hs) (nd.ok' h p hp) (show k ≤ m by omega)]
def wt (k : Nat) : Nat := 2 ^ (k + 1) - 1
def wts : List (Nat × Dx) → Nat
  | [] => 0
  | z :: r => wt z.1 + wts r
theorem wts_app : ∀ l r : List (Nat × Dx), wts (l ++ r) = wts l + wts r
  | [], r => by simp [wts]
  | z :: l, r => by rw [List.cons_append, wts, wts, wts_app l r]; omega
theorem wts_map (k : Nat) : ∀ l : List Dx, wts (l.map fun d => (k, d)) = l.length * wt k
  | [] => by simp [wts]
  | d :: r => by rw [List.map_cons, wts, wts_map k r, List.length_cons, Nat.succ_mul]; exact Nat.add_comm _ _
theorem wt_pos (k : Nat) : 1 ≤ wt k := by
  unfold wt
  have : 1 ≤ 2 ^ k := Nat.pow_pos (by decide)
  rw [Nat.pow_succ]; omega
theorem wts_ge : ∀ l : List (Nat × Dx), l.length ≤ wts l
  | [] => Nat.zero_le _
  | z :: l => by
    have := wts_ge l
    have := wt_pos z.1
    rw [List.length_cons, wts]; omega
theorem IsXA.snoc_inv {H : Hp} : ∀ {ws : List V} {ds : List Dx} {d : Dx}, IsXA H ws (ds ++ [d]) → ∃ ws0 w, ws = ws0 ++ [w] ∧ IsXA H ws0 ds ∧ IsX H w d
  | _, [], d, h => by
    cases h with
    | cons a b => cases b; exact ⟨[], _, rfl, .nil, a⟩
  | _, e :: r, d, h => by
    cases h with
    | @cons v _ vs _ a b =>
      obtain ⟨ws0, w, rfl, h1, h2⟩ := IsXA.snoc_inv (ds := r) b
      exact ⟨v :: ws0, w, rfl, .cons a h1, h2⟩
/-! ### is_saying_of -/
abbrev s_is_saying_of : Stmt := top 15
abbrev N_is_saying_of : List Str := ["thing", "heads", "waiting", "node"]
abbrev P_is_saying_of : List Str := ["thing", "heads"]
theorem sc_is_saying_of : FnScope N_is_saying_of P_is_saying_of (defScope s_is_saying_of) := ⟨rfl, rfl, rfl, by decide +kernel, rfl, by decide +kernel, by decide +kernel⟩
def spSayOf : Sp := fun vs H Q _ => ∃ (x : V) (d : Dx) (ah : Addr) (hs : List Str) (b n : Nat), vs = [x, .ref ah] ∧ IsX H x d ∧ (∀ H', SqT K H' ah (hs.map V.str)) ∧ Dx.ok b n d ∧ n ≤ 22 ∧ ∀ H', Same H H' → Q (.bl (sayN hs n d)) H'
theorem ok_sayof (T : Bt mg) (C_is_saying_of : Cal K mg "is_saying_of" s_is_saying_of P_is_saying_of f fd)
    (C_is_node : Cal K mg "is_node" s_is_node P_is_node a1 d1) (G_is_node : FnOk P w K mg base CX0 3 a1 d1 P_is_node spNode)
    (C_parts_of : Cal K mg "parts_of" s_parts_of P_parts_of a2 d2) (G_parts_of : FnOk P w K mg base CX0 1 a2 d2 P_parts_of spPartsX) : FnOk P w K mg base CX0 4 f fd P_is_saying_of (spSayOf (K := K)) := by
  refine C_is_saying_of.F.ok sc_is_saying_of (fun vs H Q E h => ?_) (fun cdv A outer s H vs Q E hr h => ?_)
  · obtain ⟨x, d, ah, hs, b, n, rfl, _⟩ := h
    rfl
  obtain ⟨x, d, ah, hs, b, n, rfl, hx, hah, hok, hn, q⟩ := h
  refine ⟨_, PSs.nox (pss_cons (ps_set (i := 2) sc_is_saying_of.nd rfl (Or.inl rfl) (pe_lst (pa_cons (pv 0) pa_nil)))
    (pss_cons (ps_while PassesOwn.never (pt_truth (pv 2) (by intro _; rfl)) (pss_cons (ps_set (i := 3) sc_is_saying_of.nd rfl (Or.inl rfl) (pe_bm0 PySem.F.plainAttrs_list PySem.F.slot_list_pop PySem.F.type_list_pop mt_pop (pv 2)))
    (pss_cons (ps_if (PW.pt (pw_or (pt_not (pt_val (pe_call G_is_node (hr.mono (by omega)) (by rfl) C_is_node.m C_is_node.F.kp C_is_node.b .nil pass0 (pa_cons (pv 3) pa_nil)))) (pw_or1 (pt_cmpR op_notIn_seq (pe_ix ix_tup (pv 3) pe_int (fun _ _ => rfl)) (pv 1) (by rfl))))) (pss_one (ps_ret pe_bl)) pss_nil)
    (pss_one (ps_expr (pe_bm PySem.F.plainAttrs_list PySem.F.slot_list_extend PySem.F.type_list_extend mt_extendT (pv 2) (pa_cons (pe_call G_parts_of (hr.mono (by omega)) (by rfl) C_parts_of.m C_parts_of.F.kp C_parts_of.b .nil pass0 (pa_cons (pv 3) pa_nil)) pa_nil)))))))
    (pss_one (ps_ret pe_bl)))), ?_⟩
  have hwn : wt n ≤ 2 ^ 23 := by
    unfold wt
    have : 2 ^ (n + 1) ≤ 2 ^ 23 := Nat.pow_le_pow_right (by decide) (by omega)
    omega
  refine ⟨_, rfl, by show 1 ≤ sizeLine; decide, fun wl hwl => ?_⟩
  have S1 := same_new hwl (.lst [x])
  have e1 : upd H wl (.lst [x]) wl = some (.lst [x]) := upd_same
  have hx1 := hx.mono (KindS.of_same S1)
  generalize upd H wl (.lst [x]) = H1 at S1 e1 hx1
  refine g_name ?_
  dsimp only
  refine seq_in (t1 := tWhile _ _) ?_
  refine while_g (α := List (Nat × Dx)) (fun st σ H' => ∃ (ws : List V) (y : Option V), σ = [some x, some (.ref ah), some (.ref wl), y] ∧ H' wl = some (.lst ws) ∧ IsXA H' ws (st.reverse.map Prod.snd) ∧ (∀ z ∈ st, Dx.ok b z.1 z.2) ∧ (st.all fun z => sayN hs z.1 z.2) = sayN hs n d ∧ wts st ≤ wt n ∧ Same H H') (fun st => wts st) [(n, d)] ?_ ?_
  · refine ⟨[x], _, rfl, e1, .cons hx1 .nil, ?_, ?_, ?_, S1⟩
    · intro z hz
      rw [List.mem_singleton.mp hz]
      exact hok
    · simp
    · simp [wts]
  · rintro st σ H5 ⟨ws, y, rfl, hwl5, IAw, hoks, heq, htot, S5⟩
    refine ⟨_, rfl, _, .inl ⟨ws, SqL.of hwl5, rfl⟩, ?_⟩
    cases st with
    | nil =>
      cases IAw
      refine iteF ?_
      have := q _ S5
      rw [← heq] at this
      exact this
    | cons z r =>
      rw [List.reverse_cons, List.map_append] at IAw
      obtain ⟨ws0, w0, rfl, IA0, Iw⟩ := IAw.snoc_inv
      have hzo := hoks z (by simp)
      obtain ⟨k, dz⟩ := z
      dsimp only at Iw hzo
      cases k with
      | zero => exact hzo.elim
      | succ k =>
        refine ifBT (by cases ws0 <;> rfl) ?_
        refine stp_g (μ := fun st : List (Nat × Dx) => wts st) (x := (k + 1, dz) :: r) ?_
        refine ⟨_, rfl, .inl ⟨rfl, _, SqL.of hwl5⟩, wl, ws0 ++ [w0], w0, rfl, rfl, hwl5, by rw [List.length_append]; simp, ?_⟩
        rw [List.dropLast_concat]
        have N6 : KindS H5 (upd H5 wl (.lst ws0)) := (KindS.of_same (Same.refl H5)).mutL hwl5
        have hwl6 : upd H5 wl (.lst ws0) wl = some (.lst ws0) := upd_same
        have hwl0 : H wl = none := hwl
        have S6 : Same H (upd H5 wl (.lst ws0)) := S5.mutN hwl0
        have Iw6 := Iw.mono N6
        have IA6 := IA0.mono N6
        generalize upd H5 wl (.lst ws0) = H6 at N6 hwl6 S6 Iw6 IA6
        refine ⟨_, rfl, w0, dz, rfl, Iw6, fun H7 S7 => ⟨_, rfl, ?_⟩⟩
        have ez : sayN hs (k + 1) dz = (nodeB dz && (hdIn hs dz && dz.kids.all (sayN hs k))) := rfl
        rw [List.all_cons] at heq
        dsimp only at heq
        rw [ez] at heq
        cases hb : nodeB dz with
        | false =>
          refine iteT ?_
          rw [hb] at heq
          have := q _ (S6.trans S7)
          rw [← heq] at this
          exact this
        | true =>
          refine iteF ?_
          rw [hb, Bool.true_and] at heq
          obtain ⟨hd, ps, nd⟩ := node_inv hb
          have Iw7 := Iw6.mono (KindS.of_same S7)
          obtain ⟨aw, rw_, rfl, haw⟩ := ndx_head nd Iw7
          have ehd : hdIn hs dz = decide (hd ∈ hs) := by unfold hdIn; rw [nd.hd]
          have eks := nd.kids
          rw [ehd, eks] at heq
          refine ⟨_, rfl, aw, _, _, .str hd, rfl, rfl, SqT.of haw, at0, _, rfl, ah, _, rfl, .inr (hah _), rfl, flat_strs hs, _, rfl, ?_⟩
          cases hin : inV (.str hd) (hs.map V.str) with
          | false =>
            refine iteT ?_
            have hni : ¬ hd ∈ hs := fun z => by rw [inV_strs.mpr z] at hin; cases hin
            rw [decide_eq_false hni] at heq
            have := q _ (S6.trans S7)
            rw [← heq] at this
            exact this
          | true =>
            refine iteF ?_
            have hyi : hd ∈ hs := inV_strs.mp hin
            rw [decide_eq_true hyi, Bool.true_and] at heq
            have hwl7 := S7 _ _ hwl6
            refine ⟨_, rfl, .inl ⟨rfl, _, SqL.of hwl7⟩, _, rfl, .ref aw, dz, hd, ps, rfl, Iw7, nd, fun b8 xs8 H8 S8 hb8 hxs8 => ?_⟩
            have hwl8 := S8 _ _ hwl7
            have key : ∃ j, (∀ p ∈ ps, Dx.ok b j p) ∧ j ≤ k ∧ ps.length * wt j < wt (k + 1) := by
              rcases nd.ok hzo with ⟨h2, h⟩ | ⟨h3, m, rfl, h⟩
              · refine ⟨k, h, Nat.le_refl _, ?_⟩
                have h4 : ps.length * wt k ≤ 2 * wt k := Nat.mul_le_mul_right _ h2
                have h5 := wt_pos k
                have h6 : wt (k + 1) = 2 * wt k + 1 := by
                  unfold wt
                  have : 1 ≤ 2 ^ (k + 1) := Nat.pow_pos (by decide)
                  rw [Nat.pow_succ 2 (k + 1)]; omega
                omega
              · refine ⟨m, h, by omega, ?_⟩
                have h4 : ps.length * wt m ≤ 3 * wt m := Nat.mul_le_mul_right _ h3
                have h6 : wt (m + 1 + 1) = 4 * wt m + 3 := by
                  unfold wt
                  have : 1 ≤ 2 ^ (m + 1) := Nat.pow_pos (by decide)
                  rw [Nat.pow_succ 2 (m + 1 + 1), Nat.pow_succ 2 (m + 1)]; omega
                omega
            obtain ⟨j, hj1, hj2, hj3⟩ := key
            have lws : ws0.length = r.length := by rw [IA0.len, List.length_map, List.length_reverse]
            have lxs := hxs8.len
            have hrw := wts_ge r
            have hst : wts ((k + 1, dz) :: r) = wt (k + 1) + wts r := rfl
            have hp1 : ps.length ≤ ps.length * wt j := Nat.le_mul_of_pos_right _ (wt_pos j)
            refine ⟨wl, b8, ws0, xs8, rfl, rfl, hwl8, hb8, ?_, ?_⟩
            · show ws0.length + xs8.length ≤ 2 ^ 24
              omega
            have N9 : KindS H8 (upd H8 wl (.lst (ws0 ++ xs8))) := (KindS.of_same (Same.refl H8)).mutL hwl8
            refine ⟨(ps.map fun p => (j, p)).reverse ++ r, ?_, ws0 ++ xs8, _, rfl, upd_same, ?_, ?_, ?_, ?_, ((S6.trans S7).trans S8).mutN hwl0⟩
            · show wts _ < wts ((k + 1, dz) :: r)
              rw [wts_app, hst, ← List.map_reverse, wts_map, List.length_reverse]
              omega
            · rw [List.reverse_append, List.reverse_reverse, List.map_append, List.map_map]
              have e9 : (ps.map (Prod.snd ∘ fun p => (j, p))) = ps := by rw [show (Prod.snd ∘ fun p : Dx => (j, p)) = id from rfl, List.map_id]
              rw [e9]
              exact ((IA6.mono (KindS.of_same (S7.trans S8))).mono N9).app (hxs8.mono N9)
            · intro z hz
              rcases List.mem_append.mp hz with hz | hz
              · rw [List.mem_reverse] at hz
                obtain ⟨p, hp, rfl⟩ := List.mem_map.mp hz
                exact hj1 p hp
              · exact hoks z (by simp [hz])
            · rw [← heq, List.all_append, List.all_reverse, List.all_map]
              congr 1
              exact all_congr fun p hp => (sayN_mono (hj1 p hp) hj2).symm
            · rw [wts_app, ← List.map_reverse, wts_map, List.length_reverse]
              omega
end
end Nf


set_option Elab.async false
set_option linter.all false
set_option maxRecDepth 100000
namespace Nf
open PySem L2
section
variable {P : Program} {w : World} {K : PySem.W.Frag} {mg : Str → Option Value} {base : Heap} {f fn a1 a2 : Addr} {fd fnd d1 d2 : FuncData} {tL tF tm tn tp : Tok} {aK aE aT aP : Addr}
def spSay (hs : List Str) : Sp := fun vs H Q _ => ∃ (x : V) (d : Dx) (b n : Nat), vs = [x] ∧ IsX H x d ∧ Dx.ok b n d ∧ n ≤ 22 ∧ ∀ H', Same H H' → Q (.bl (sayN hs n d)) H'
abbrev s_is_saying : Stmt := top 16
abbrev N_is_saying : List Str := ["thing"]
abbrev P_is_saying : List Str := ["thing"]
theorem sc_is_saying : FnScope N_is_saying P_is_saying (defScope s_is_saying) := ⟨rfl, rfl, rfl, by decide +kernel, rfl, by decide +kernel, by decide +kernel⟩
theorem ok_saying (T : Bt1 K mg tL tF tm tn tp aK aE aT aP) (C_is_saying : Cal K mg "is_saying" s_is_saying P_is_saying f fd)
    (C_is_saying_of : Cal K mg "is_saying_of" s_is_saying_of P_is_saying_of a1 d1) (G_is_saying_of : FnOk P w K mg base CX0 4 a1 d1 P_is_saying_of (spSayOf (K := K))) : FnOk P w K mg base CX0 5 f fd P_is_saying (spSay heads6) := by
  refine C_is_saying.F.ok sc_is_saying (fun vs H Q E h => ?_) (fun cdv A outer s H vs Q E hr h => ?_)
  · obtain ⟨x, d, b, n, rfl, _⟩ := h
    rfl
  obtain ⟨x, d, b, n, rfl, hx, ho, hn, q⟩ := h
  refine ⟨_, PSs.nox (pss_one (ps_ret (pe_call G_is_saying_of (hr.mono (by omega)) (by rfl) C_is_saying_of.m C_is_saying_of.F.kp C_is_saying_of.b .nil pass0 (pa_cons (pv 0) (pa_cons (pe_glob (v := .ref _) (by rfl) T.g_EVERY_HEAD rfl) pa_nil))))), ?_⟩
  exact ⟨_, rfl, x, d, aE, heads6, b, n, rfl, hx, T.k_EVERY, ho, hn, q⟩
abbrev s_is_thing : Stmt := top 17
abbrev N_is_thing : List Str := ["thing"]
abbrev P_is_thing : List Str := ["thing"]
theorem sc_is_thing : FnScope N_is_thing P_is_thing (defScope s_is_thing) := ⟨rfl, rfl, rfl, by decide +kernel, rfl, by decide +kernel, by decide +kernel⟩
theorem ok_thing (T : Bt1 K mg tL tF tm tn tp aK aE aT aP) (C_is_thing : Cal K mg "is_thing" s_is_thing P_is_thing f fd)
    (C_is_saying_of : Cal K mg "is_saying_of" s_is_saying_of P_is_saying_of a1 d1) (G_is_saying_of : FnOk P w K mg base CX0 4 a1 d1 P_is_saying_of (spSayOf (K := K))) : FnOk P w K mg base CX0 5 f fd P_is_thing (spSay ["name", "made"]) := by
  refine C_is_thing.F.ok sc_is_thing (fun vs H Q E h => ?_) (fun cdv A outer s H vs Q E hr h => ?_)
  · obtain ⟨x, d, b, n, rfl, _⟩ := h
    rfl
  obtain ⟨x, d, b, n, rfl, hx, ho, hn, q⟩ := h
  refine ⟨_, PSs.nox (pss_one (ps_ret (pe_call G_is_saying_of (hr.mono (by omega)) (by rfl) C_is_saying_of.m C_is_saying_of.F.kp C_is_saying_of.b .nil pass0 (pa_cons (pv 0) (pa_cons (pe_glob (v := .ref _) (by rfl) T.g_THING_HEADS rfl) pa_nil))))), ?_⟩
  exact ⟨_, rfl, x, d, aT, ["name", "made"], b, n, rfl, hx, T.k_THING, ho, hn, q⟩
abbrev s_is_plain : Stmt := top 18
abbrev N_is_plain : List Str := ["thing"]
abbrev P_is_plain : List Str := ["thing"]
theorem sc_is_plain : FnScope N_is_plain P_is_plain (defScope s_is_plain) := ⟨rfl, rfl, rfl, by decide +kernel, rfl, by decide +kernel, by decide +kernel⟩
theorem ok_plain (T : Bt1 K mg tL tF tm tn tp aK aE aT aP) (C_is_plain : Cal K mg "is_plain" s_is_plain P_is_plain f fd)
    (C_is_saying_of : Cal K mg "is_saying_of" s_is_saying_of P_is_saying_of a1 d1) (G_is_saying_of : FnOk P w K mg base CX0 4 a1 d1 P_is_saying_of (spSayOf (K := K))) : FnOk P w K mg base CX0 5 f fd P_is_plain (spSay ["made"]) := by
  refine C_is_plain.F.ok sc_is_plain (fun vs H Q E h => ?_) (fun cdv A outer s H vs Q E hr h => ?_)
  · obtain ⟨x, d, b, n, rfl, _⟩ := h
    rfl
  obtain ⟨x, d, b, n, rfl, hx, ho, hn, q⟩ := h
  refine ⟨_, PSs.nox (pss_one (ps_ret (pe_call G_is_saying_of (hr.mono (by omega)) (by rfl) C_is_saying_of.m C_is_saying_of.F.kp C_is_saying_of.b .nil pass0 (pa_cons (pv 0) (pa_cons (pe_glob (v := .ref _) (by rfl) T.g_PLAIN_HEADS rfl) pa_nil))))), ?_⟩
  exact ⟨_, rfl, x, d, aP, ["made"], b, n, rfl, hx, T.k_PLAIN, ho, hn, q⟩
/-! ### the law's own walk -/
theorem sayN_out {hs : List Str} {n : Nat} {z : Str} {r : List Dx} (h : ¬ z ∈ hs) : sayN hs (n + 1) (.tup (.str z :: r)) = false := by
  unfold sayN
  rw [show hdIn hs (.tup (.str z :: r)) = decide (z ∈ hs) from rfl, decide_eq_false h, Bool.false_and, Bool.and_false]
theorem sayN_in {hs : List Str} {n : Nat} {z : Str} {r : List Dx} (h : z ∈ hs) : sayN hs (n + 1) (.tup (.str z :: r)) = (nodeB (.tup (.str z :: r)) && (Dx.kids (.tup (.str z :: r))).all (sayN hs n)) := by
  rw [sayN, show hdIn hs (.tup (.str z :: r)) = decide (z ∈ hs) from rfl, decide_eq_true h, Bool.true_and]
theorem sayN_skip {hs : List Str} {n : Nat} {r : List Dx} (h : ("skip" : Str) ∈ hs) : sayN hs (n + 1) (.tup (.str "skip" :: r)) = decide (r.length = 0) := by
  rw [sayN_in h, show Dx.kids (.tup (.str "skip" :: r)) = [] from rfl, show nodeB (.tup (.str "skip" :: r)) = (decide (some ("skip" : Str) = some ("skip" : Str)) && decide (r.length = 0)) from rfl]
  simp
theorem sayN_name {hs : List Str} {n : Nat} {r : List Dx} (h : ("name" : Str) ∈ hs) : sayN hs (n + 1) (.tup (.str "name" :: r)) = (decide (r.length = 1) && (wordOf ((r.getD 0 .non).txt) || newOf ((r.getD 0 .non).txt))) := by
  rw [sayN_in h, show Dx.kids (.tup (.str "name" :: r)) = [] from rfl, show nodeB (.tup (.str "name" :: r)) = (decide (r.length = 1) && (wordOf ((r.getD 0 .non).txt) || newOf ((r.getD 0 .non).txt))) from rfl]
  simp
theorem sayN_two {hs : List Str} {n : Nat} {c : Bool} {r : List Dx} (h : hTwo c ∈ hs) : sayN hs (n + 1) (.tup (.str (hTwo c) :: r)) = (decide (r.length = 2) && r.all (sayN hs n)) := by
  rw [sayN_in h]
  cases c <;> rfl
theorem sayN_app {hs : List Str} {n : Nat} {c : Bool} {r : List Dx} (h : hApp c ∈ hs) : sayN hs (n + 1) (.tup (.str (hApp c) :: r)) = ((decide (r.length = 2) && (wordOf ((r.getD 0 .non).txt) && match (r.getD 1 .non).ps with
      | some ps => decide (ps.length ≤ 3)
      | none => false)) && (((r.getD 1 .non).ps).getD []).all (sayN hs n)) := by
  rw [sayN_in h]
  cases c <;> rfl
abbrev s_is : Stmt := top 27
abbrev N_is : List Str := ["_law_thing", "_law_heads_here", "_law_part"]
abbrev P_is : List Str := ["_law_thing", "_law_heads_here"]
theorem sc_is : FnScope N_is P_is (defScope s_is) := ⟨rfl, rfl, rfl, by decide +kernel, rfl, by decide +kernel, by decide +kernel⟩
def spIs (n : Nat) : Sp := fun vs H Q _ => ∃ (x : V) (d : Dx) (ah : Addr) (hs : List Str) (b : Nat), vs = [x, .ref ah] ∧ IsX H x d ∧ H ah = some (.lst (hs.map V.str)) ∧ (∀ z ∈ hs, z ∈ heads6) ∧ Dx.ok b n d ∧ b ≤ 1000 ∧ ∀ H', Same H H' → Q (.bl (sayN hs n d)) H'
theorem ok_lis (T : Bt mg) (C_is : Cal K mg "_law_is" s_is P_is f fd)
    (C_l_is_word : Cal K mg "_law_is_word" s_l_is_word P_l_is_word a1 d1) (G_l_is_word : FnOk P w K mg base CX0 1 a1 d1 P_l_is_word (spWord (K := K)))
    (C_is_new : Cal K mg "_law_is_new" s_is_new P_is_new a2 d2) (G_is_new : FnOk P w K mg base CX0 1 a2 d2 P_is_new (spNew (K := K))) : ∀ n : Nat, FnOk P w K mg base CX0 (n + 1) f fd P_is (spIs n)
  | 0 => fn_never fun vs H Q E ⟨_, _, _, _, _, _, _, _, _, h, _⟩ => h.elim
  | n + 1 => by
    have G_is := ok_lis T C_is C_l_is_word G_l_is_word C_is_new G_is_new n
    refine C_is.F.ok sc_is (fun vs H Q E h => ?_) (fun cdv A outer s H vs Q E hr h => ?_)
    · obtain ⟨x, d, ah, hs, b, rfl, _⟩ := h
      rfl
    obtain ⟨x, d, ah, hs, b, rfl, hx, hah, h6, ho, hb, q⟩ := h
    refine ⟨_, PSs.nox (pss_cons (ps_if (PW.pt (pw_or (pt_not (pt_val (pe_callB call_isi (by rfl) T.t_isinstance (by decide +kernel) (pa_cons (pv 0) (pa_cons (pe_bltn (v := .ty "tuple") (by rfl) T.t_tuple (by decide +kernel) rfl) pa_nil))))) (pw_or (pt_cmpR (op_eq_nilT hr.units0) (pv 0) (pe_tup pa_nil) (nomark _)) (pw_or (pt_not (pt_val (pe_callB call_isi (by rfl) T.t_isinstance (by decide +kernel) (pa_cons (pe_ix ix_tup (pv 0) pe_int (fun _ _ => rfl)) (pa_cons (pe_bltn (v := .ty "str") (by rfl) T.t_str (by decide +kernel) rfl) pa_nil))))) (pw_or1 (pt_cmpR op_notIn_seq (pe_ix ix_tup (pv 0) pe_int (fun _ _ => rfl)) (pv 1) (by rfl))))))) (pss_one (ps_ret pe_bl)) pss_nil)
      (pss_cons (ps_if (pt_cmpR op_eq (pe_ix ix_tup (pv 0) pe_int (fun _ _ => rfl)) pe_str (nomark _)) (pss_one (ps_ret (pe_cmpR op_eq (pe_callB call_len_seq (by rfl) T.t_len (by decide +kernel) (pa_cons (pv 0) pa_nil)) pe_int (nomark _)))) pss_nil)
      (pss_cons (ps_if (pt_cmpR op_eq (pe_ix ix_tup (pv 0) pe_int (fun _ _ => rfl)) pe_str (nomark _)) (pss_one (ps_ret (pe_and (pe_cmpR op_eq (pe_callB call_len_seq (by rfl) T.t_len (by decide +kernel) (pa_cons (pv 0) pa_nil)) pe_int (nomark _)) (pe_one (pe_or (pe_call G_l_is_word (hr.mono (by omega)) (by rfl) C_l_is_word.m C_l_is_word.F.kp C_l_is_word.b .nil pass0 (pa_cons (pe_ix ix_tup (pv 0) pe_int (fun _ _ => rfl)) pa_nil)) (pe_one (pe_call G_is_new (hr.mono (by omega)) (by rfl) C_is_new.m C_is_new.F.kp C_is_new.b .nil pass0 (pa_cons (pe_ix ix_tup (pv 0) pe_int (fun _ _ => rfl)) pa_nil)))))))) pss_nil)
      (pss_cons (ps_if (pt_cmpR op_ne (pe_callB call_len_seq (by rfl) T.t_len (by decide +kernel) (pa_cons (pv 0) pa_nil)) pe_int (nomark _)) (pss_one (ps_ret pe_bl)) pss_nil)
      (pss_cons (ps_if (pt_cmpR op_in_seq (pe_ix ix_tup (pv 0) pe_int (fun _ _ => rfl)) (pe_lst (pa_cons pe_str (pa_cons pe_str pa_nil))) (by rfl)) (pss_one (ps_ret (pe_and (pe_call G_is (hr.mono (by omega)) (by rfl) C_is.m C_is.F.kp C_is.b .nil pass0 (pa_cons (pe_ix ix_tup (pv 0) pe_int (fun _ _ => rfl)) (pa_cons (pv 1) pa_nil))) (pe_one (pe_call G_is (hr.mono (by omega)) (by rfl) C_is.m C_is.F.kp C_is.b .nil pass0 (pa_cons (pe_ix ix_tup (pv 0) pe_int (fun _ _ => rfl)) (pa_cons (pv 1) pa_nil))))))) pss_nil)
      (pss_cons (ps_if (PW.pt (pw_or (pt_not (pt_val (pe_call G_l_is_word (hr.mono (by omega)) (by rfl) C_l_is_word.m C_l_is_word.F.kp C_l_is_word.b .nil pass0 (pa_cons (pe_ix ix_tup (pv 0) pe_int (fun _ _ => rfl)) pa_nil)))) (pw_or (pt_not (pt_val (pe_callB call_isi (by rfl) T.t_isinstance (by decide +kernel) (pa_cons (pe_ix ix_tup (pv 0) pe_int (fun _ _ => rfl)) (pa_cons (pe_bltn (v := .ty "tuple") (by rfl) T.t_tuple (by decide +kernel) rfl) pa_nil))))) (pw_or1 (pt_cmpR op_gt (pe_callB call_len_seq (by rfl) T.t_len (by decide +kernel) (pa_cons (pe_ix ix_tup (pv 0) pe_int (fun _ _ => rfl)) pa_nil)) pe_int (nomark _)))))) (pss_one (ps_ret pe_bl)) pss_nil)
      (pss_one (ps_ret (pe_callB (cr_all rfl) (by rfl) T.t_all (by decide +kernel) (pa_cons (pe_lc (own := [("_law_part", 2)]) (g := gName 2) (tt := tYes) (by rfl) sc_is.nd (pi_tup (pe_ix ix_tup (pv 0) pe_int (fun _ _ => rfl))) (blkOk_by (own := [("_law_part", 2)]) (N := N_is) (sc := defScope s_is) (by decide +kernel)) (fun _ _ _ _ _ => (pg_name (i := 2) sc_is.nd rfl (Or.inl rfl))) (fun _ _ _ _ _ => pts_nil) (fun _ _ _ _ _ => (pe_call G_is (hr.mono (by omega)) (by rfl) C_is.m C_is.F.kp C_is.b .nil pass0 (pa_cons (pv 2) (pa_cons (pv 1) pa_nil))))) pa_nil)))))))))), ?_⟩
    cases hx with
    | non => exact ⟨_, rfl, _, _, _, _, false, rfl, .ty _, .base .non, kit_ty (by decide +kernel), _, rfl, iteT (q _ (Same.refl _))⟩
    | bl b => exact ⟨_, rfl, _, _, _, _, false, rfl, .ty _, .base (.bl b), kit_ty (by decide +kernel), _, rfl, iteT (q _ (Same.refl _))⟩
    | int i => exact ⟨_, rfl, _, _, _, _, false, rfl, .ty _, .base (.int i), kit_ty (by decide +kernel), _, rfl, iteT (q _ (Same.refl _))⟩
    | str z l => exact ⟨_, rfl, _, _, _, _, false, rfl, .ty _, .base (.str z), kit_ty (by decide +kernel), _, rfl, iteT (q _ (Same.refl _))⟩
    | lst h => exact ⟨_, rfl, _, _, _, _, false, rfl, .ty _, .base (.lst h), kit_ty (by decide +kernel), _, rfl, iteT (q _ (Same.refl _))⟩
    | dic h => exact ⟨_, rfl, _, _, _, _, false, rfl, .ty _, .base (.dK h), kit_ty (by decide +kernel), _, rfl, iteT (q _ (Same.refl _))⟩
    | @tup a xs ds ha hs0 =>
      refine ⟨_, rfl, _, _, _, _, true, rfl, .ty _, .base (.tup ha), kit_ty (by decide +kernel), _, rfl, iteF ?_⟩
      refine ⟨_, rfl, by show 0 ≤ sizeLine; decide, fun p0 hp0 => ?_⟩
      have S1 := same_new hp0 (.tup [])
      refine ⟨a, p0, xs, rfl, rfl, SqT.of (S1 _ _ ha), SqT.of upd_same, _, rfl, ?_⟩
      have hs1 := hs0.mono (KindS.of_same S1)
      have ha1 := S1 _ _ ha
      have hah1 := S1 _ _ hah
      generalize upd H p0 (.tup []) = H1 at S1 hs1 ha1 hah1
      clear hs0 ha hah
      cases hs1 with
      | nil => exact iteT (q _ S1)
      | @cons x0 e0 xr r h0 hr1 =>
        refine iteF ?_
        have lr := hr1.len
        refine ⟨_, rfl, a, _, _, x0, rfl, rfl, SqT.of ha1, at0, ?_⟩
        have no : e0.txt = none → sayN hs (n + 1) (.tup (e0 :: r)) = false := fun e => by
          unfold sayN
          rw [show hdIn hs (.tup (e0 :: r)) = false by unfold hdIn; rw [show Dx.hd (.tup (e0 :: r)) = e0.txt from rfl, e], Bool.false_and, Bool.and_false]
        cases h0 with
        | non => rw [no rfl] at q; exact ⟨_, _, _, _, false, rfl, .ty _, .base .non, kit_ty (by decide +kernel), _, rfl, iteT (q _ S1)⟩
        | bl b => rw [no rfl] at q; exact ⟨_, _, _, _, false, rfl, .ty _, .base (.bl b), kit_ty (by decide +kernel), _, rfl, iteT (q _ S1)⟩
        | int i => rw [no rfl] at q; exact ⟨_, _, _, _, false, rfl, .ty _, .base (.int i), kit_ty (by decide +kernel), _, rfl, iteT (q _ S1)⟩
        | lst h => rw [no rfl] at q; exact ⟨_, _, _, _, false, rfl, .ty _, .base (.lst h), kit_ty (by decide +kernel), _, rfl, iteT (q _ S1)⟩
        | dic h => rw [no rfl] at q; exact ⟨_, _, _, _, false, rfl, .ty _, .base (.dK h), kit_ty (by decide +kernel), _, rfl, iteT (q _ S1)⟩
        | tup h _ => rw [no rfl] at q; exact ⟨_, _, _, _, false, rfl, .ty _, .base (.tup h), kit_ty (by decide +kernel), _, rfl, iteT (q _ S1)⟩
        | str z l =>
          refine ⟨_, _, _, _, true, rfl, .ty _, .base (.str z), kit_ty (by decide +kernel), _, rfl, iteF ?_⟩
          refine ⟨_, rfl, a, _, _, .str z, rfl, rfl, SqT.of ha1, at0, _, rfl, ah, _, rfl, .inl (SqL.of hah1), rfl, flat_strs hs, _, rfl, ?_⟩
          cases hin : inV (.str z) (hs.map V.str) with
          | false =>
            refine iteT ?_
            have hni : ¬ z ∈ hs := fun z => by rw [inV_strs.mpr z] at hin; cases hin
            have := q _ S1
            rw [sayN_out hni] at this
            exact this
          | true =>
            refine iteF ?_
            have hyi : z ∈ hs := inV_strs.mp hin
            refine ⟨_, rfl, a, _, _, .str z, rfl, rfl, SqT.of ha1, at0, rfl, _, rfl, ?_⟩
            rcases heads6_cases (h6 z hyi) with rfl | rfl | ⟨c0, rfl⟩ | ⟨c0, rfl⟩
            · refine ifT rfl ?_
              rw [sayN_skip hyi] at q
              refine ⟨_, rfl, a, _, rfl, .inr (SqT.of ha1), rfl, ?_⟩
              have e2 : decide (V.int (((V.str "skip" :: xr).length : Nat) : Int) = V.int 1) = decide (r.length = 0) := decide_eq_decide.mpr ⟨fun e => by have := V.int.inj e; simp only [List.length_cons] at this; omega, fun e => congrArg V.int (by simp only [List.length_cons]; omega)⟩
              have := q _ S1
              rw [← e2] at this
              exact this
            · refine ifF (by decide) ?_
              refine ⟨_, rfl, a, _, _, .str _, rfl, rfl, SqT.of ha1, at0, rfl, _, rfl, ifT rfl ?_⟩
              rw [sayN_name hyi] at q
              refine ⟨_, rfl, a, _, rfl, .inr (SqT.of ha1), rfl, _, rfl, ?_⟩
              by_cases hl : r.length = 1
              · rw [decide_eq_true (congrArg V.int (show (((V.str "name" :: xr).length : Nat) : Int) = 2 by simp only [List.length_cons]; omega))]
                refine iteT ?_
                cases hr1 with
                | nil => simp at hl
                | @cons x1 e1 xr' r' h1 hr2 =>
                  cases hr2 with
                  | cons _ _ => simp at hl
                  | nil =>
                    refine ⟨_, rfl, a, _, _, x1, rfl, rfl, SqT.of ha1, rfl, x1, rfl, h1.any, fun H2 S2 => ⟨_, rfl, ?_⟩⟩
                    have q2 : ∀ H', Same H H' → Q (.bl (wordOf (txOf x1) || newOf (txOf x1))) H' := fun H' S' => by
                      have := q H' S'
                      rw [h1.tx]
                      exact this
                    cases hw : wordOf (txOf x1) with
                    | true =>
                      refine iteT ?_
                      have := q2 _ (S1.trans S2)
                      rw [hw] at this
                      exact this
                    | false =>
                      refine iteF ?_
                      refine ⟨_, rfl, a, _, _, x1, rfl, rfl, SqT.of (S2 _ _ ha1), rfl, x1, rfl, (h1.mono (KindS.of_same S2)).any, fun H3 S3 => ?_⟩
                      have := q2 _ ((S1.trans S2).trans S3)
                      rw [hw, Bool.false_or] at this
                      exact this
              · rw [decide_eq_false (fun e => hl (by have := V.int.inj e; simp only [List.length_cons] at this; omega))]
                refine iteF ?_
                have := q _ S1
                rw [decide_eq_false hl] at this
                exact this
            · refine ifF (by cases c0 <;> decide) ?_
              refine ⟨_, rfl, a, _, _, .str _, rfl, rfl, SqT.of ha1, at0, rfl, _, rfl, ifF (by cases c0 <;> decide) ?_⟩
              rw [sayN_two hyi] at q
              refine ⟨_, rfl, a, _, rfl, .inr (SqT.of ha1), rfl, _, rfl, ?_⟩
              by_cases hl : r.length = 2
              · rw [decide_eq_true (congrArg V.int (show (((V.str (hTwo c0) :: xr).length : Nat) : Int) = 3 by simp only [List.length_cons]; omega))]
                refine iteF ?_
                cases hr1 with
                | nil => simp at hl
                | @cons x1 e1 xr' r' h1 hr2 =>
                  cases hr2 with
                  | nil => simp at hl
                  | @cons x2 e2 xr2 r2 h2 hr3 =>
                    cases hr3 with
                    | cons _ _ => simp at hl
                    | nil =>
                      have q2 : ∀ H', Same H H' → Q (.bl (sayN hs n e1 && sayN hs n e2)) H' := fun H' S' => by
                        have := q H' S'
                        rw [decide_eq_true hl, Bool.true_and] at this
                        simpa using this
                      refine ⟨_, rfl, a, _, _, .str _, rfl, rfl, SqT.of ha1, at0, by show 2 ≤ sizeLine; decide, fun p1 hp1 => ⟨p1, _, rfl, .inl (SqL.of upd_same), rfl, rfl, _, rfl, ?_⟩⟩
                      refine ifBT (by cases c0 <;> decide) ?_
                      have S2' := same_new hp1 (.lst [.str "either", .str "same"])
                      have S2 := S1.trans S2'
                      have ha2 := S2' _ _ ha1
                      have hah2 := S2' _ _ hah1
                      have h1' := h1.mono (KindS.of_same S2')
                      have h2' := h2.mono (KindS.of_same S2')
                      generalize upd H1 p1 (.lst [.str "either", .str "same"]) = H2 at S2 S2' ha2 hah2 h1' h2'
                      refine ⟨_, rfl, a, _, _, x1, rfl, rfl, SqT.of ha2, rfl, _, rfl, x1, e1, ah, hs, b, rfl, h1', hah2, h6, ho.2 e1 (by simp), hb, fun H3 S3 => ⟨_, rfl, ?_⟩⟩
                      cases hw : sayN hs n e1 with
                      | false =>
                        refine iteF ?_
                        have := q2 _ (S2.trans S3)
                        rw [hw] at this
                        exact this
                      | true =>
                        refine iteT ?_
                        refine ⟨_, rfl, a, _, _, x2, rfl, rfl, SqT.of (S3 _ _ ha2), rfl, _, rfl, x2, e2, ah, hs, b, rfl, h2'.mono (KindS.of_same S3), S3 _ _ hah2, h6, ho.2 e2 (by simp), hb, fun H4 S4 => ?_⟩
                        have := q2 _ ((S2.trans S3).trans S4)
                        rw [hw, Bool.true_and] at this
                        exact this
              · rw [decide_eq_false (fun e => hl (by have := V.int.inj e; simp only [List.length_cons] at this; omega))]
                refine iteT ?_
                have := q _ S1
                rw [decide_eq_false hl] at this
                exact this
            · refine ifF (by cases c0 <;> decide) ?_
              refine ⟨_, rfl, a, _, _, .str _, rfl, rfl, SqT.of ha1, at0, rfl, _, rfl, ifF (by cases c0 <;> decide) ?_⟩
              rw [sayN_app hyi] at q
              refine ⟨_, rfl, a, _, rfl, .inr (SqT.of ha1), rfl, _, rfl, ?_⟩
              by_cases hl : r.length = 2
              · rw [decide_eq_true (congrArg V.int (show (((V.str (hApp c0) :: xr).length : Nat) : Int) = 3 by simp only [List.length_cons]; omega))]
                refine iteF ?_
                cases hr1 with
                | nil => simp at hl
                | @cons x1 e1 xr' r' h1 hr2 =>
                  cases hr2 with
                  | nil => simp at hl
                  | @cons x2 e2 xr2 r2 h2 hr3 =>
                    cases hr3 with
                    | cons _ _ => simp at hl
                    | nil =>
                      have q2 : ∀ H', Same H H' → Q (.bl ((wordOf (txOf x1) && match e2.ps with
                          | some ps => decide (ps.length ≤ 3)
                          | none => false) && ((e2.ps).getD []).all (sayN hs n))) H' := fun H' S' => by
                        have := q H' S'
                        rw [decide_eq_true hl, Bool.true_and] at this
                        rw [h1.tx]
                        exact this
                      refine ⟨_, rfl, a, _, _, .str _, rfl, rfl, SqT.of ha1, at0, by show 2 ≤ sizeLine; decide, fun p1 hp1 => ⟨p1, _, rfl, .inl (SqL.of upd_same), rfl, rfl, _, rfl, ?_⟩⟩
                      refine ifBF (by cases c0 <;> decide) ?_
                      have S2' := same_new hp1 (.lst [.str "either", .str "same"])
                      have S2 := S1.trans S2'
                      have ha2 := S2' _ _ ha1
                      have hah2 := S2' _ _ hah1
                      have h1' := h1.mono (KindS.of_same S2')
                      have h2' := h2.mono (KindS.of_same S2')
                      generalize upd H1 p1 (.lst [.str "either", .str "same"]) = H2 at S2 S2' ha2 hah2 h1' h2'
                      refine ⟨_, rfl, a, _, _, x1, rfl, rfl, SqT.of ha2, rfl, x1, rfl, h1'.any, fun H3 S3 => ⟨_, rfl, ?_⟩⟩
                      cases hw : wordOf (txOf x1) with
                      | false =>
                        refine iteT ?_
                        have := q2 _ (S2.trans S3)
                        rw [hw] at this
                        exact this
                      | true =>
                        refine iteF ?_
                        rw [hw, Bool.true_and] at q2
                        have h3' := h2'.mono (KindS.of_same S3)
                        have ha3 := S3 _ _ ha2
                        have hah3 := S3 _ _ hah2
                        have S3' := S2.trans S3
                        refine ⟨_, rfl, a, _, _, x2, rfl, rfl, SqT.of ha3, rfl, ?_⟩
                        clear h2' h2
                        cases h3' with
                        | non => exact ⟨_, _, _, _, false, rfl, .ty _, .base .non, kit_ty (by decide +kernel), _, rfl, iteT (q2 _ S3')⟩
                        | bl b => exact ⟨_, _, _, _, false, rfl, .ty _, .base (.bl b), kit_ty (by decide +kernel), _, rfl, iteT (q2 _ S3')⟩
                        | int i => exact ⟨_, _, _, _, false, rfl, .ty _, .base (.int i), kit_ty (by decide +kernel), _, rfl, iteT (q2 _ S3')⟩
                        | str z l => exact ⟨_, _, _, _, false, rfl, .ty _, .base (.str z), kit_ty (by decide +kernel), _, rfl, iteT (q2 _ S3')⟩
                        | lst h => exact ⟨_, _, _, _, false, rfl, .ty _, .base (.lst h), kit_ty (by decide +kernel), _, rfl, iteT (q2 _ S3')⟩
                        | dic h => exact ⟨_, _, _, _, false, rfl, .ty _, .base (.dK h), kit_ty (by decide +kernel), _, rfl, iteT (q2 _ S3')⟩
                        | @tup bb ys es hbb hes =>
                          refine ⟨_, _, _, _, true, rfl, .ty _, .base (.tup hbb), kit_ty (by decide +kernel), _, rfl, iteF ?_⟩
                          refine ⟨_, rfl, a, _, _, _, rfl, rfl, SqT.of ha3, rfl, bb, _, rfl, .inr (SqT.of hbb), _, _, rfl, rfl, _, rfl, ?_⟩
                          have el := hes.len
                          have q3 : ∀ H', Same H H' → Q (.bl (decide (es.length ≤ 3) && es.all (sayN hs n))) H' := q2
                          by_cases h3 : es.length ≤ 3
                          · rw [decide_eq_true h3, Bool.true_and] at q3
                            refine ifF (by omega) ?_
                            have hoe : ∀ e ∈ es, Dx.ok b n e := fun e he => by
                              have := ho.2 (.tup es) (by simp)
                              cases n with
                              | zero => exact this.elim
                              | succ n => exact Dx.ok_mono (Nat.le_refl _) (by omega) (this.2 e he)
                            refine ⟨_, rfl, a, _, _, _, rfl, rfl, SqT.of ha3, rfl, bb, rfl, ⟨ys, SqT.of hbb⟩, fun Z hZ => ?_⟩
                            refine lc_bools (bs := es.map (sayN hs n)) walk_tup (by rw [List.length_map, el]) (fun H' S' => SqT.of (S' _ _ hbb)) (by omega) hZ (fun x => rfl) ?_ ?_
                            · intro i x bv H5 Q' hx hbv S5 q5
                              obtain ⟨e, he, hxe⟩ := hes.get hx
                              rw [List.getElem?_map, he] at hbv
                              cases hbv
                              exact ⟨_, rfl, _, rfl, x, e, ah, hs, b, rfl, hxe.mono (KindS.of_same S5), S5 _ _ hah3, h6, hoe e (List.mem_of_getElem? he), hb, q5⟩
                            · intro H5 S5 hZ5
                              refine ⟨Z, _, rfl, SqL.of hZ5, ?_⟩
                              have := q3 _ (S3'.trans S5)
                              rw [List.all_map]
                              exact this
                          · rw [decide_eq_false h3] at q3
                            refine ifT (by omega) ?_
                            exact q3 _ S3'
              · rw [decide_eq_false (fun e => hl (by have := V.int.inj e; simp only [List.length_cons] at this; omega))]
                refine iteT ?_
                have := q _ S1
                rw [decide_eq_false hl] at this
                exact this
end
end Nf


set_option Elab.async false
set_option linter.all false
set_option maxRecDepth 100000
namespace Nf
open PySem L2
section
variable {P : Program} {w : World} {K : PySem.W.Frag} {mg : Str → Option Value} {base : Heap} {f fn fl fm : Addr} {fd fnd fld fmd : FuncData}
/-! ### a text of letters -/
abbrev s_letters : Stmt := top 22
abbrev N_letters : List Str := ["_law_deck_here", "_law_most", "_law_number", "_law_found", "_law_k"]
abbrev P_letters : List Str := ["_law_deck_here", "_law_most"]
theorem sc_letters : FnScope N_letters P_letters (defScope s_letters) := ⟨rfl, rfl, rfl, by decide +kernel, rfl, by decide +kernel, by decide +kernel⟩
def spLetters : Sp := fun vs H Q _ => ∃ (d g c : Addr) (n : Nat) (m : Nat), vs = [.ref d, .int m] ∧ Deck H d g c n ∧ 1 ≤ m ∧ m ≤ 100 ∧ n + m + 1 < 2 ^ 40 ∧
  ∀ x H', x.length ≤ m → Deck H' d g c (n + m + 1) → Keep [d, g, c] H H' → Q (.str x) H'
theorem ok_letters (T : Bt mg) (C_letters : Cal K mg "_law_letters" s_letters P_letters f fd) (C_next : Cal K mg "_law_next" s_next P_next fn fnd) (G_next : FnOk P w K mg base CX0 1 fn fnd P_next spNext) : FnOk P w K mg base CX0 2 f fd P_letters spLetters := by
  refine C_letters.F.ok sc_letters (fun vs H Q E h => ?_) (fun cdv A outer s H vs Q E hr h => ?_)
  · obtain ⟨d, g, c, n, m, rfl, _⟩ := h
    rfl
  obtain ⟨d, g, c, n, m, rfl, D, hm1, hm, hn, q⟩ := h
  refine ⟨_, PSs.nox (pss_cons (ps_set (i := 2) sc_letters.nd rfl (Or.inl rfl) (pe_call G_next (hr.mono (by omega)) (by rfl) C_next.m C_next.F.kp C_next.b .nil pass0 (pa_cons (pv 0) pa_nil)))
    (pss_cons (ps_set (i := 3) sc_letters.nd rfl (Or.inl rfl) pe_str)
    (pss_cons (ps_for PassesOwn.never (by rfl) (pi_range1 (by rfl) T.t_range (pa_cons (pe_op op_add pe_int (pe_op op_mod (pv 2) (pv 1))) pa_nil)) (pg_name (i := 4) sc_letters.nd rfl (Or.inl rfl)) (pss_one (ps_set (i := 3) sc_letters.nd rfl (Or.inl rfl) (pe_op op_add_str (pv 3) (pe_ix ix_str pe_str (pe_op op_mod (pe_call G_next (hr.mono (by omega)) (by rfl) C_next.m C_next.F.kp C_next.b .nil pass0 (pa_cons (pv 0) pa_nil)) pe_int) (fun _ _ => rfl))))))
    (pss_one (ps_ret (pv 3)))))), ?_⟩
  refine ⟨_, rfl, d, g, c, n, rfl, D, by omega, fun k H1 hk0 hk1 D1 K1 => ?_⟩
  have hpos : (0 : Int) < (m : Int) := by omega
  refine ⟨_, rfl, _, rfl, _, _, rfl, rfl, hpos, _, _, rfl, rfl, _, rfl, ?_, ?_, ?_⟩
  · have := mod_range (k := k) hpos; omega
  · have := mod_range (k := k) hpos; omega
  have hr1 := mod_range (k := k) hpos
  refine for_range (lo := 0) (n := (1 + k % (m : Int)).toNat) (fun i σ H' => ∃ (x : Str) (y : Option V), σ = [some (.ref d), some (.int m), some (.int k), some (.str x), y] ∧ x.length = i ∧ Deck H' d g c (n + 1 + i) ∧ Keep [d, g, c] H H') ?_ ?_ ?_
  · exact ⟨"", _, rfl, rfl, D1, K1⟩
  · rintro i σ H2 hi ⟨x, y, rfl, hx, D2, K2⟩
    refine ⟨_, rfl, _, rfl, d, g, c, n + 1 + i, rfl, D2, by omega, fun k2 H3 hk2 hk3 D3 K3 => ?_⟩
    refine ⟨_, _, rfl, rfl, by show (0 : Int) < 26; decide, ?_⟩
    have hr2 := mod_range (k := k2) (m := 26) (by decide)
    obtain ⟨cc, hcc⟩ := atC (xs := (Str.ofString "abcdefghijklmnopqrstuvwxyz").cps.toList) (i := k2 % 26) hr2.1 (by
      have e : (Str.ofString "abcdefghijklmnopqrstuvwxyz").cps.toList.length = 26 := by decide +kernel
      rw [e]; exact hr2.2)
    refine ⟨_, _, cc, rfl, rfl, by decide +kernel, hcc, _, _, rfl, rfl, ?_, ?_⟩
    · refine sz5 ?_
      show x.length + 1 ≤ 100000
      omega
    · refine ⟨x ++ ⟨#[cc]⟩, _, rfl, ?_, D3, K2.trans K3⟩
      rw [str_len, hx]
      rfl
  · rintro σ H2 ⟨x, y, rfl, hx, D2, K2⟩
    refine ⟨_, rfl, ?_⟩
    exact q x H2 (by omega) (D2.le (by omega)) K2
/-! ### a name -/
theorem num_len0 : ∀ n : Fin 999, (Str.ofString (toString (1 + (n.val : Int)))).length ≤ 8 := by decide +kernel
theorem num_len {k : Int} (h0 : 0 ≤ k) (h1 : k < 999) : (Str.ofString (toString (1 + k))).length ≤ 8 := by
  obtain ⟨n, rfl⟩ := Int.eq_ofNat_of_zero_le h0
  exact num_len0 ⟨n, by omega⟩
abbrev s_name : Stmt := top 23
abbrev N_name : List Str := ["_law_deck_here", "_law_number", "_law_some", "_law_found"]
abbrev P_name : List Str := ["_law_deck_here"]
theorem sc_name : FnScope N_name P_name (defScope s_name) := ⟨rfl, rfl, rfl, by decide +kernel, rfl, by decide +kernel, by decide +kernel⟩
def spName : Sp := fun vs H Q _ => ∃ (d g c : Addr) (n : Nat), vs = [.ref d] ∧ Deck H d g c n ∧ n + 10 < 2 ^ 40 ∧
  ∀ x H', x.length ≤ 8 → Deck H' d g c (n + 10) → Keep [d, g, c] H H' → Q (.str x) H'
theorem ok_name (T : Bt mg) (C_name : Cal K mg "_law_name" s_name P_name f fd) (C_next : Cal K mg "_law_next" s_next P_next fn fnd) (G_next : FnOk P w K mg base CX0 1 fn fnd P_next spNext)
    (C_letters : Cal K mg "_law_letters" s_letters P_letters fl fld) (G_letters : FnOk P w K mg base CX0 2 fl fld P_letters spLetters) : FnOk P w K mg base CX0 3 f fd P_name spName := by
  refine C_name.F.ok sc_name (fun vs H Q E h => ?_) (fun cdv A outer s H vs Q E hr h => ?_)
  · obtain ⟨d, g, c, n, rfl, _⟩ := h
    rfl
  obtain ⟨d, g, c, n, rfl, D, hn, q⟩ := h
  refine ⟨_, PSs.nox (pss_cons (ps_set (i := 1) sc_name.nd rfl (Or.inl rfl) (pe_call G_next (hr.mono (by omega)) (by rfl) C_next.m C_next.F.kp C_next.b .nil pass0 (pa_cons (pv 0) pa_nil)))
    (pss_cons (ps_set (i := 2) sc_name.nd rfl (Or.inl rfl) (pe_lst (pa_cons pe_str (pa_cons pe_str (pa_cons pe_str (pa_cons pe_str (pa_cons pe_str (pa_cons pe_str (pa_cons pe_str (pa_cons pe_str pa_nil))))))))))
    (pss_cons (ps_if (pt_cmpR op_lt (pe_op op_mod (pv 1) pe_int) pe_int (nomark _)) (pss_one (ps_ret (pe_ix ix_list (pv 2) (pe_op op_mod (pe_op op_fdiv (pv 1) pe_int) pe_int) (fun _ _ => rfl)))) pss_nil)
    (pss_cons (ps_if (pt_cmpR op_eq (pe_op op_mod (pv 1) pe_int) pe_int (nomark _)) (pss_one (ps_ret (pe_callTy call_str_int (by rfl) T.t_str (by decide +kernel) (pa_cons (pe_op op_add pe_int (pe_op op_mod (pe_op op_fdiv (pv 1) pe_int) pe_int)) pa_nil)))) pss_nil)
    (pss_cons (ps_set (i := 3) sc_name.nd rfl (Or.inl rfl) (pe_call G_letters (hr.mono (by omega)) (by rfl) C_letters.m C_letters.F.kp C_letters.b .nil pass0 (pa_cons (pv 0) (pa_cons pe_int pa_nil))))
    (pss_one (ps_ret (pe_ix ix_list (pe_lst (pa_cons (pv 3) (pa_cons pe_str pa_nil))) (pe_callTy call_int1 (by rfl) T.t_int (by decide +kernel) (pa_cons (pe_cmpR op_in_seq (pv 3) (pe_lst (pa_cons pe_str (pa_cons pe_str (pa_cons pe_str (pa_cons pe_str (pa_cons pe_str pa_nil)))))) (by rfl)) pa_nil)) (fun _ _ => rfl))))))))), ?_⟩
  refine ⟨_, rfl, d, g, c, n, rfl, D, by omega, fun k H1 hk0 hk1 D1 K1 => ?_⟩
  refine ⟨by show 8 ≤ sizeLine; decide, fun p hp => ?_⟩
  have D2 := D1.new hp (o := .lst [.str "a", .str "b", .str "ab", .str "ba", .str "kin", .str "sam", .str "eithers", .str "yes"])
  have K2 := K1.new hp (o := .lst [.str "a", .str "b", .str "ab", .str "ba", .str "kin", .str "sam", .str "eithers", .str "yes"])
  have hpp : upd H1 p (.lst [.str "a", .str "b", .str "ab", .str "ba", .str "kin", .str "sam", .str "eithers", .str "yes"]) p = some (.lst ((["a", "b", "ab", "ba", "kin", "sam", "eithers", "yes"] : List Str).map V.str)) := upd_same
  refine ⟨_, rfl, _, _, rfl, rfl, by show (0 : Int) < 8; decide, _, _, rfl, rfl, _, rfl, ?_⟩
  refine ite2 (fun c1 => ?_) (fun c1 => ?_)
  · have hr2 := mod_range (k := k / 8) (m := 8) (by decide)
    obtain ⟨x, hx, hxm, _⟩ := at_nat (xs := (["a", "b", "ab", "ba", "kin", "sam", "eithers", "yes"] : List Str)) (f := V.str) hr2.1 hr2.2
    have hx8 : x.length ≤ 8 := by
      have : ∀ y ∈ (["a", "b", "ab", "ba", "kin", "sam", "eithers", "yes"] : List Str), y.length ≤ 8 := by decide +kernel
      exact this x hxm
    refine ⟨_, rfl, _, rfl, _, _, rfl, rfl, ⟨by decide, by decide⟩, _, _, rfl, rfl, by show (0 : Int) < 8; decide, p, _, _, _, rfl, rfl, SqL.of hpp, hx, ?_⟩
    exact q x _ hx8 (D2.le (by omega)) K2
  · refine ⟨_, rfl, _, _, rfl, rfl, by show (0 : Int) < 8; decide, rfl, _, rfl, ?_⟩
    refine ite2 (fun c2 => ?_) (fun c2 => ?_)
    · have hr2 := mod_range (k := k / 8) (m := 999) (by decide)
      refine ⟨_, rfl, _, _, rfl, rfl, ⟨by decide, by decide⟩, _, _, rfl, rfl, by show (0 : Int) < 999; decide, _, _, rfl, rfl, _, rfl, ?_, ?_⟩
      · have h1 : (1 + k / 8 % 999).natAbs < 2 ^ 1920 := Nat.lt_of_lt_of_le (show (1 + k / 8 % 999).natAbs < 2 ^ 10 by omega) (Nat.pow_le_pow_right (by decide) (by decide))
        exact PySem.Flt.log2_lt_of (by decide) h1
      · exact q _ _ (num_len hr2.1 hr2.2) (D2.le (by omega)) K2
    · refine ⟨_, rfl, d, g, c, n + 1, 8, rfl, D2, by decide, by decide, by omega, fun x H3 hx D3 K3 => ?_⟩
      refine ⟨_, rfl, by show 2 ≤ sizeLine; decide, fun p2 hp2 => ?_⟩
      have D4 := D3.new hp2 (o := .lst [.str x, .str "z"])
      have K4 := (K2.trans K3).new hp2 (o := .lst [.str x, .str "z"])
      have hpp2 : upd H3 p2 (.lst [.str x, .str "z"]) p2 = some (.lst [.str x, .str "z"]) := upd_same
      generalize upd H3 p2 (.lst [.str x, .str "z"]) = H4 at D4 K4 hpp2
      refine ⟨_, rfl, by show 5 ≤ sizeLine; decide, fun p3 hp3 => ?_⟩
      have D5 := D4.new hp3 (o := .lst [.str "kind", .str "def", .str "either", .str "same", .str "truth"])
      have K5 := K4.new hp3 (o := .lst [.str "kind", .str "def", .str "either", .str "same", .str "truth"])
      have hpp3 : upd H4 p3 (.lst [.str "kind", .str "def", .str "either", .str "same", .str "truth"]) p2 = some (.lst [.str x, .str "z"]) := by rw [upd_ne (ne_of_none hpp2 hp3)]; exact hpp2
      refine ⟨p3, _, rfl, .inl (SqL.of upd_same), rfl, rfl, .inr ⟨_, rfl, ?_⟩⟩
      cases inV (.str x) [.str "kind", .str "def", .str "either", .str "same", .str "truth"] with
      | true =>
        refine ⟨p2, _, _, .str "z", rfl, rfl, SqL.of hpp3, rfl, ?_⟩
        exact q _ _ (by decide +kernel) (D5.le (by omega)) K5
      | false =>
        refine ⟨p2, _, _, .str x, rfl, rfl, SqL.of hpp3, rfl, ?_⟩
        exact q _ _ hx (D5.le (by omega)) K5
end
end Nf


set_option Elab.async false
set_option linter.all false
set_option maxRecDepth 100000
namespace Nf
open PySem L2
section
variable {P : Program} {w : World} {K : PySem.W.Frag} {mg : Str → Option Value} {base : Heap} {f fn fm : Addr} {fd fnd fmd : FuncData}
/-! ### a saying, as data of any kind -/
theorem Deck.kind {H H' : Hp} {d g c : Addr} {n m : Nat} (D : Deck H d g c n) (D' : Deck H' d g c m) (k : Keep [d, g, c] H H') : KindS H H' := fun a => by
  by_cases h : a ∈ [d, g, c]
  · obtain ⟨k1, h1, _⟩ := D.hd
    obtain ⟨ds, h2, _⟩ := D.hg
    obtain ⟨cs, h3, _⟩ := D.hc
    obtain ⟨k1', h1', _⟩ := D'.hd
    obtain ⟨ds', h2', _⟩ := D'.hg
    obtain ⟨cs', h3', _⟩ := D'.hc
    simp only [List.mem_cons, List.not_mem_nil, or_false] at h
    rcases h with rfl | rfl | rfl
    · refine ⟨fun xs e => ?_, fun xs e => ⟨_, h1'⟩, fun kvs e => ?_⟩ <;> (rw [h1] at e; cases e)
    · refine ⟨fun xs e => ?_, fun xs e => ⟨_, h2'⟩, fun kvs e => ?_⟩ <;> (rw [h2] at e; cases e)
    · refine ⟨fun xs e => ?_, fun xs e => ⟨_, h3'⟩, fun kvs e => ?_⟩ <;> (rw [h3] at e; cases e)
  · exact ⟨fun xs e => k a _ e h, fun xs e => ⟨xs, k a _ e h⟩, fun kvs e => ⟨kvs, k a _ e h⟩⟩
theorem h2_len (c : Bool) : (hTwo c).length ≤ 8 := by cases c <;> decide +kernel
theorem ha_len (c : Bool) : (hApp c).length ≤ 8 := by cases c <;> decide +kernel
theorem isX_name {H : Hp} {a : Addr} {x : Str} (h : H a = some (.tup [.str "name", .str x])) (hx : x.length ≤ 8) : IsX H (.ref a) (.tup [.str "name", .str x]) := .tup h (.cons (.str _ (by decide +kernel)) (.cons (.str _ (by omega)) .nil))
theorem isX_skip {H : Hp} {a : Addr} (h : H a = some (.tup [.str "skip"])) : IsX H (.ref a) (.tup [.str "skip"]) := .tup h (.cons (.str _ (by decide +kernel)) .nil)
theorem isX_two {H : Hp} {a : Addr} {c : Bool} {x y : V} {d e : Dx} (h : H a = some (.tup [.str (hTwo c), x, y])) (hx : IsX H x d) (hy : IsX H y e) : IsX H (.ref a) (.tup [.str (hTwo c), d, e]) := .tup h (.cons (.str _ (by have := h2_len c; omega)) (.cons hx (.cons hy .nil)))
theorem isX_app {H : Hp} {a b : Addr} {c : Bool} {z : Str} {xs : List V} {ds : List Dx} (h : H a = some (.tup [.str (hApp c), .str z, .ref b])) (hz : z.length ≤ 8) (hb : H b = some (.tup xs)) (hs : IsXA H xs ds) : IsX H (.ref a) (.tup [.str (hApp c), .str z, .tup ds]) := .tup h (.cons (.str _ (by have := ha_len c; omega)) (.cons (.str _ (by omega)) (.cons (.tup hb hs) .nil)))
theorem okX_name {x : Str} (hx : x.length ≤ 8) (n : Nat) : Dx.ok 8 (n + 2) (.tup [.str "name", .str x]) := by
  refine ⟨by simp, fun d hd => ?_⟩
  simp only [List.mem_cons, List.not_mem_nil, or_false] at hd
  rcases hd with rfl | rfl
  · show (Str.ofString "name").length ≤ 8; decide +kernel
  · exact hx
theorem okX_skip (n : Nat) : Dx.ok 8 (n + 2) (.tup [.str "skip"]) := by
  refine ⟨by simp, fun d hd => ?_⟩
  simp only [List.mem_cons, List.not_mem_nil, or_false] at hd
  subst hd
  show (Str.ofString "skip").length ≤ 8; decide +kernel
theorem okX_two {c : Bool} {d e : Dx} {n : Nat} (hd : Dx.ok 8 (n + 1) d) (he : Dx.ok 8 (n + 1) e) : Dx.ok 8 (n + 2) (.tup [.str (hTwo c), d, e]) := by
  refine ⟨by simp, fun d hd => ?_⟩
  simp only [List.mem_cons, List.not_mem_nil, or_false] at hd
  rcases hd with rfl | rfl | rfl
  · exact h2_len c
  · assumption
  · assumption
theorem okX_app {c : Bool} {z : Str} {ds : List Dx} {n : Nat} (hz : z.length ≤ 8) (hl : ds.length ≤ 8) (hs : ∀ d ∈ ds, Dx.ok 8 (n + 1) d) : Dx.ok 8 (n + 3) (.tup [.str (hApp c), .str z, .tup ds]) := by
  refine ⟨by simp, fun d hd => ?_⟩
  simp only [List.mem_cons, List.not_mem_nil, or_false] at hd
  rcases hd with rfl | rfl | rfl
  · exact ha_len c
  · exact hz
  · exact ⟨hl, hs⟩
abbrev s_any : Stmt := top 24
abbrev N_any : List Str := ["_law_deck_here", "_law_heads_here", "_law_left", "_law_number", "_law_word", "_law_one", "_law_many", "_law_head", "_law_k"]
abbrev P_any : List Str := ["_law_deck_here", "_law_heads_here", "_law_left"]
theorem sc_any : FnScope N_any P_any (defScope s_any) := ⟨rfl, rfl, rfl, by decide +kernel, rfl, by decide +kernel, by decide +kernel⟩
def spAny (m : Nat) : Sp := fun vs H Q _ => ∃ (d g c hs : Addr) (n : Nat) (ws : List Str) (left : Int), vs = [.ref d, .ref hs, .int left] ∧ Deck H d g c n ∧ H hs = some (.lst (ws.map V.str)) ∧ hs ∉ [d, g, c] ∧ 0 < ws.length ∧
  (∀ x ∈ ws, x ∈ heads6) ∧ 1 ≤ left ∧ left ≤ m ∧ n + cost m < 2 ^ 40 ∧
  ∀ v s H', Deck H' d g c (n + cost m) → Keep [d, g, c] H H' → IsX H' v s → Dx.ok 8 (2 * m + 3) s → Q v H'
theorem ok_any (T : Bt mg) (C_any : Cal K mg "_law_any" s_any P_any f fd) (C_next : Cal K mg "_law_next" s_next P_next fn fnd) (G_next : FnOk P w K mg base CX0 1 fn fnd P_next spNext)
    (C_name : Cal K mg "_law_name" s_name P_name fm fmd) (G_name : FnOk P w K mg base CX0 3 fm fmd P_name spName) : ∀ m : Nat, FnOk P w K mg base CX0 (m + 3) f fd P_any (spAny m)
  | 0 => fn_never fun vs H Q E ⟨_, _, _, _, _, _, _, _, _, _, _, _, _, h1, h2, _⟩ => by omega
  | m + 1 => by
    have G_any := ok_any T C_any C_next G_next C_name G_name m
    refine C_any.F.ok sc_any (fun vs H Q E h => ?_) (fun cdv A outer s H vs Q E hr h => ?_)
    · obtain ⟨d, g, c, hs, n, ws, left, rfl, _⟩ := h
      rfl
    obtain ⟨d, g, c, hs, n, ws, left, rfl, D, hh, hns, hw0, hw6, hl1, hlm, hn, q⟩ := h
    refine ⟨_, PSs.nox (pss_cons (ps_set (i := 3) sc_any.nd rfl (Or.inl rfl) (pe_call G_next (hr.mono (by omega)) (by rfl) C_next.m C_next.F.kp C_next.b .nil pass0 (pa_cons (pv 0) pa_nil)))
      (pss_cons (ps_set (i := 4) sc_any.nd rfl (Or.inl rfl) (pe_ix ix_list (pv 1) (pe_op op_mod (pv 3) (pe_callB call_len_seq (by rfl) T.t_len (by decide +kernel) (pa_cons (pv 1) pa_nil))) (fun _ _ => rfl)))
      (pss_cons (ps_if (PW.pt (pw_and (pt_cmpR op_lt (pv 2) pe_int (nomark _)) (pw_and1 (pt_cmpR op_notIn_seq (pv 4) (pe_lst (pa_cons pe_str (pa_cons pe_str pa_nil))) (by rfl))))) (pss_one (ps_set (i := 4) sc_any.nd rfl (Or.inl rfl) (pe_ix ix_list (pe_lst (pa_cons pe_str (pa_cons pe_str pa_nil))) (pe_callTy call_int1 (by rfl) T.t_int (by decide +kernel) (pa_cons (pe_or (pe_cmpR op_notIn_seq pe_str (pv 1) (by rfl)) (pe_one (pe_cmpR op_eq (pe_op op_mod (pe_op op_fdiv (pv 3) pe_int) pe_int) pe_int (nomark _)))) pa_nil)) (fun _ _ => rfl)))) pss_nil)
      (pss_cons (ps_if (pt_cmpR op_eq (pv 4) pe_str (nomark _)) (pss_one (ps_ret (pe_tup (pa_cons pe_str pa_nil)))) pss_nil)
      (pss_cons (ps_if (pt_cmpR op_eq (pv 4) pe_str (nomark _)) (pss_one (ps_ret (pe_tup (pa_cons pe_str (pa_cons (pe_call G_name (hr.mono (by omega)) (by rfl) C_name.m C_name.F.kp C_name.b .nil pass0 (pa_cons (pv 0) pa_nil)) pa_nil))))) pss_nil)
      (pss_cons (ps_if (pt_cmpR op_in_seq (pv 4) (pe_lst (pa_cons pe_str (pa_cons pe_str pa_nil))) (by rfl)) (pss_cons (ps_set (i := 5) sc_any.nd rfl (Or.inl rfl) (pe_call G_any (hr.mono (by omega)) (by rfl) C_any.m C_any.F.kp C_any.b .nil pass0 (pa_cons (pv 0) (pa_cons (pv 1) (pa_cons (pe_op op_sub (pv 2) pe_int) pa_nil)))))
      (pss_one (ps_ret (pe_tup (pa_cons (pv 4) (pa_cons (pv 5) (pa_cons (pe_call G_any (hr.mono (by omega)) (by rfl) C_any.m C_any.F.kp C_any.b .nil pass0 (pa_cons (pv 0) (pa_cons (pv 1) (pa_cons (pe_op op_sub (pv 2) pe_int) pa_nil)))) pa_nil))))))) pss_nil)
      (pss_cons (ps_set (i := 6) sc_any.nd rfl (Or.inl rfl) (pe_op op_mul (pe_ix ix_list (pe_lst (pa_cons pe_int (pa_cons pe_int (pa_cons pe_int (pa_cons pe_int (pa_cons pe_int (pa_cons pe_int pa_nil))))))) (pe_op op_mod (pe_op op_fdiv (pv 3) pe_int) pe_int) (fun _ _ => rfl)) (pe_callTy call_int1 (by rfl) T.t_int (by decide +kernel) (pa_cons (pe_cmpR op_gt (pv 2) pe_int (nomark _)) pa_nil))))
      (pss_cons (ps_set (i := 7) sc_any.nd rfl (Or.inl rfl) (pe_ix ix_list (pe_lst (pa_cons pe_str (pa_cons pe_str (pa_cons pe_str (pa_cons pe_str (pa_cons pe_str (pa_cons pe_str (pa_cons pe_str pa_nil)))))))) (pe_op op_mod (pe_op op_fdiv (pv 3) pe_int) pe_int) (fun _ _ => rfl)))
      (pss_one (ps_ret (pe_tup (pa_cons (pv 4) (pa_cons (pv 7) (pa_cons (pe_callTy call_tuple_of (by rfl) T.t_tuple (by decide +kernel) (pa_cons (pe_lc (own := [("_law_k", 8)]) (g := gName 8) (tt := tYes) (by rfl) sc_any.nd (pi_range1 (by rfl) T.t_range (pa_cons (pv 6) pa_nil)) (blkOk_by (own := [("_law_k", 8)]) (N := N_any) (sc := defScope s_any) (by decide +kernel)) (fun _ _ _ _ _ => (pg_name (i := 8) sc_any.nd rfl (Or.inl rfl))) (fun _ _ _ _ _ => pts_nil) (fun _ _ _ _ _ => (pe_call G_any (hr.mono (by omega)) (by rfl) C_any.m C_any.F.kp C_any.b .nil pass0 (pa_cons (pv 0) (pa_cons (pv 1) (pa_cons (pe_op op_sub (pv 2) pe_int) pa_nil)))))) pa_nil)) pa_nil)))))))))))))), ?_⟩
    have cp := cost_pos m
    rw [cost_succ] at hn q
    have hlw : (0 : Int) < (((ws.map V.str).length : Nat) : Int) := by rw [List.length_map]; omega
    refine ⟨_, rfl, d, g, c, n, rfl, D, by omega, fun k H1 hk0 hk1 D1 K1 => ?_⟩
    have hh1 := K1.at hh hns
    have hr1 := mod_range (k := k) hlw
    obtain ⟨x0, hx0, hx0m, _⟩ := at_nat (xs := ws) (f := V.str) hr1.1 (by have := hr1.2; rw [List.length_map] at this; rw [List.length_map]; exact this)
    refine ⟨_, rfl, _, rfl, _, rfl, hs, _, rfl, .inl (SqL.of hh1), _, _, rfl, rfl, hlw, hs, _, _, _, rfl, rfl, SqL.of hh1, hx0, ?_⟩
    refine g_name ?_
    dsimp only
    refine seq_cut (t1 := tIfS _ _ _) (fun σ' H' => ∃ x : Str, σ' = [some (.ref d), some (.ref hs), some (.int left), some (.int k), some (.str x), none, none, none, none] ∧ Deck H' d g c (n + 1) ∧ Keep [d, g, c] H H' ∧ (x ∈ ws ∨ x = "made") ∧ (left < 2 → x = "name" ∨ x = "skip" ∨ x = "made")) ?_ ?_
    · rintro σ' H2 ⟨x, rfl, D2, K2, hxw, hx2⟩
      have em : 2 * (m + 1) + 3 = (2 * m + 2) + 3 := by omega
      rw [em] at q
      have hh2 := K2.at hh hns
      have hx6 : x ∈ heads6 := by
        rcases hxw with h | h
        · exact hw6 x h
        · rw [h]; simp [heads6]
      rcases heads6_cases hx6 with rfl | rfl | ⟨c0, rfl⟩ | ⟨c0, rfl⟩
      · refine ⟨_, rfl, rfl, _, rfl, ?_⟩
        refine ifT rfl ?_
        refine ⟨by show 1 ≤ sizeLine; decide, fun t ht => ?_⟩
        exact q _ _ _ ((D2.new ht).le (by omega)) (K2.new ht) (isX_skip upd_same) (okX_skip _)
      · refine ⟨_, rfl, rfl, _, rfl, ?_⟩
        refine ifF (by decide) ?_
        refine ⟨_, rfl, rfl, _, rfl, ?_⟩
        refine ifT rfl ?_
        refine ⟨_, rfl, d, g, c, n + 1, rfl, D2, by omega, fun y H3 hy8 D3 K3 => ⟨by show 2 ≤ sizeLine; decide, fun t ht => ?_⟩⟩
        exact q _ _ _ ((D3.new ht).le (by omega)) ((K2.trans K3).new ht) (isX_name upd_same hy8) (okX_name hy8 _)
      · refine ⟨_, rfl, rfl, _, rfl, ?_⟩
        refine ifF (by cases c0 <;> decide) ?_
        refine ⟨_, rfl, rfl, _, rfl, ?_⟩
        refine ifF (by cases c0 <;> decide) ?_
        have hl2 : 2 ≤ left := by
          by_cases z : left < 2
          · rcases hx2 z with h | h | h <;> cases c0 <;> exact absurd h (by decide)
          · omega
        refine ⟨_, rfl, by show 2 ≤ sizeLine; decide, fun p hp => ⟨p, _, rfl, .inl (SqL.of upd_same), rfl, rfl, _, rfl, ?_⟩⟩
        refine ifBT (by cases c0 <;> decide) ?_
        have D3 := D2.new hp (o := .lst [.str "either", .str "same"])
        have K3 := K2.new hp (o := .lst [.str "either", .str "same"])
        generalize upd H2 p (.lst [.str "either", .str "same"]) = H3 at D3 K3
        refine ⟨_, rfl, _, rfl, _, rfl, _, _, rfl, rfl, d, g, c, hs, n + 1, ws, left - 1, rfl, D3, K3.at hh hns, hns, hw0, hw6, by omega, by omega, by omega, fun v1 s1 H4 D4 K4 I1 o1 => ?_⟩
        have K4' := K3.trans K4
        refine ⟨_, rfl, _, rfl, _, rfl, _, rfl, _, rfl, _, _, rfl, rfl, d, g, c, hs, n + 1 + cost m, ws, left - 1, rfl, D4, K4'.at hh hns, hns, hw0, hw6, by omega, by omega, by omega, fun v2 s2 H5 D5 K5 I2 o2 => ?_⟩
        have I1' := I1.mono (D4.kind D5 K5)
        refine ⟨by show 3 ≤ sizeLine; decide, fun t ht => ?_⟩
        have N := KindS.of_same (same_new ht (.tup [.str (hTwo c0), v1, v2]))
        exact q _ _ _ ((D5.new ht).le (by omega)) ((K4'.trans K5).new ht) (isX_two upd_same (I1'.mono N) (I2.mono N)) (okX_two (Dx.ok_mono (Nat.le_refl _) (by omega) o1) (Dx.ok_mono (Nat.le_refl _) (by omega) o2))
      · refine ⟨_, rfl, rfl, _, rfl, ?_⟩
        refine ifF (by cases c0 <;> decide) ?_
        refine ⟨_, rfl, rfl, _, rfl, ?_⟩
        refine ifF (by cases c0 <;> decide) ?_
        refine ⟨_, rfl, by show 2 ≤ sizeLine; decide, fun p hp => ⟨p, _, rfl, .inl (SqL.of upd_same), rfl, rfl, _, rfl, ?_⟩⟩
        refine ifBF (by cases c0 <;> decide) ?_
        have D3 := D2.new hp (o := .lst [.str "either", .str "same"])
        have K3 := K2.new hp (o := .lst [.str "either", .str "same"])
        generalize upd H2 p (.lst [.str "either", .str "same"]) = H3 at D3 K3
        have hr16 := mod_range (k := k / 16) (m := 6) (by decide)
        obtain ⟨v, hv, hvm, _⟩ := at_nat (xs := ([0, 1, 1, 2, 2, 3] : List Int)) (f := V.int) hr16.1 hr16.2
        have hv3 : 0 ≤ v ∧ v ≤ 3 := by
          simp only [List.mem_cons, List.not_mem_nil, or_false] at hvm
          omega
        refine ⟨by show 6 ≤ sizeLine; decide, fun p2 hp2 => ?_⟩
        have D4 := D3.new hp2 (o := .lst [.int 0, .int 1, .int 1, .int 2, .int 2, .int 3])
        have K4 := K3.new hp2 (o := .lst [.int 0, .int 1, .int 1, .int 2, .int 2, .int 3])
        have hp2' : upd H3 p2 (.lst [.int 0, .int 1, .int 1, .int 2, .int 2, .int 3]) p2 = some (.lst (([0, 1, 1, 2, 2, 3] : List Int).map V.int)) := upd_same
        generalize upd H3 p2 (.lst [.int 0, .int 1, .int 1, .int 2, .int 2, .int 3]) = H4 at D4 K4 hp2'
        refine ⟨_, rfl, _, _, rfl, rfl, ⟨by decide, by decide⟩, _, _, rfl, rfl, by show (0 : Int) < 6; decide, p2, _, _, _, rfl, rfl, SqL.of hp2', hv, ?_⟩
        refine ⟨_, rfl, _, _, rfl, rfl, .inr ⟨_, rfl, _, _, rfl, rfl, .inl ⟨by omega, by omega⟩, ?_⟩⟩
        have hM : 0 ≤ v * (if decide (1 < left) = true then 1 else 0) ∧ v * (if decide (1 < left) = true then 1 else 0) ≤ 3 ∧ (left < 2 → v * (if decide (1 < left) = true then 1 else 0) = 0) := by
          split
          · next h => exact ⟨by omega, by omega, fun z => absurd (of_decide_eq_true h) (by omega)⟩
          · exact ⟨by omega, by omega, fun _ => by omega⟩
        obtain ⟨M, eM⟩ : ∃ M, v * (if decide (1 < left) = true then 1 else 0) = M := ⟨_, rfl⟩
        rw [eM] at hM
        obtain ⟨hM0, hM3, hM1⟩ := hM
        have hr96 := mod_range (k := k / 96) (m := 7) (by decide)
        obtain ⟨ww, hww, hwm, _⟩ := at_nat (xs := (["yes", "no", "nought", "next", "pair", "leaf", "plus"] : List Str)) (f := V.str) hr96.1 hr96.2
        have hw8 : ww.length ≤ 8 := by
          have : ∀ y ∈ (["yes", "no", "nought", "next", "pair", "leaf", "plus"] : List Str), y.length ≤ 8 := by decide +kernel
          exact this ww hwm
        refine ⟨by show 7 ≤ sizeLine; decide, fun p3 hp3 => ?_⟩
        have D5 := D4.new hp3 (o := .lst [.str "yes", .str "no", .str "nought", .str "next", .str "pair", .str "leaf", .str "plus"])
        have K5 := K4.new hp3 (o := .lst [.str "yes", .str "no", .str "nought", .str "next", .str "pair", .str "leaf", .str "plus"])
        have hp3' : upd H4 p3 (.lst [.str "yes", .str "no", .str "nought", .str "next", .str "pair", .str "leaf", .str "plus"]) p3 = some (.lst ((["yes", "no", "nought", "next", "pair", "leaf", "plus"] : List Str).map V.str)) := upd_same
        generalize upd H4 p3 (.lst [.str "yes", .str "no", .str "nought", .str "next", .str "pair", .str "leaf", .str "plus"]) = H5 at D5 K5 hp3'
        refine ⟨_, rfl, _, _, rfl, rfl, ⟨by decide, by decide⟩, _, _, rfl, rfl, by show (0 : Int) < 7; decide, p3, _, _, _, rfl, rfl, SqL.of hp3', hww, ?_⟩
        refine ⟨_, rfl, _, rfl, _, rfl, M, congrArg (fun z => [V.int z]) eM, by omega, by omega, fun Z hZ => ?_⟩
        have hZD := D5.not_new hZ
        refine lc_range (lo := 0) (n := M.toNat) (fun i H' => ∃ (vs : List V) (ss : List Dx), Deck H' d g c (n + 1 + i * cost m) ∧ Keep [d, g, c] H H' ∧ H' Z = some (.lst vs) ∧ IsXA H' vs ss ∧ ss.length = i ∧ ∀ p ∈ ss, Dx.ok 8 (2 * m + 3) p) ?_ ?_ ?_
        · exact ⟨[], [], by simpa using D5.new hZ, K5.new hZ, upd_same, .nil, rfl, by simp⟩
        · rintro i H6 hi ⟨vs, ss, D6, K6, hZ6, IA, hsl, hok⟩
          refine ⟨rfl, yes_if ?_⟩
          have hl2 : 2 ≤ left := by
            by_cases z : left < 2
            · have := hM1 z; omega
            · omega
          have hi3 : i ≤ 2 := by omega
          have hcc : i * cost m ≤ 2 * cost m := Nat.mul_le_mul_right _ hi3
          refine ⟨_, rfl, _, rfl, _, rfl, _, _, rfl, rfl, d, g, c, hs, n + 1 + i * cost m, ws, left - 1, rfl, D6, K6.at hh hns, hns, hw0, hw6, by omega, by omega, by omega, fun v1 s1 H7 D7 K7 I7 o7 => ?_⟩
          have lvs : vs.length = i := by rw [IA.len, hsl]
          have hZ7 := K7.at hZ6 hZD
          refine ⟨vs, hZ7, small1000 (by omega), vs ++ [v1], ss ++ [s1], ?_, (K6.trans K7).mutN (K5.free' hZ hZD), upd_same, ?_, by rw [List.length_append, hsl]; rfl, ?_⟩
          · have e : n + 1 + (i + 1) * cost m = n + 1 + i * cost m + cost m := by rw [Nat.succ_mul]; omega
            rw [e]
            exact D7.put hZD
          · have N : KindS H7 (upd H7 Z (.lst (vs ++ [v1]))) := (KindS.of_same (Same.refl H7)).mutL hZ7
            exact ((IA.mono (D6.kind D7 K7)).mono N).app (.cons (I7.mono N) .nil)
          · intro p hp
            rcases List.mem_append.mp hp with h | h
            · exact hok p h
            · simp only [List.mem_singleton] at h
              rw [h]; exact o7
        · rintro H6 ⟨vs, ss, D6, K6, hZ6, IA, hsl, hok⟩
          have hMc : M.toNat * cost m ≤ 3 * cost m := Nat.mul_le_mul_right _ (by omega)
          refine ⟨Z, vs, rfl, .inl ⟨SqL.of hZ6, fun l hl => ?_⟩⟩
          refine ⟨by show 3 ≤ sizeLine; decide, fun t ht => ?_⟩
          have N1 := KindS.of_same (same_new hl (.tup vs))
          have N2' := same_new ht (.tup [.str (hApp c0), .str ww, .ref l])
          have N2 := KindS.of_same N2'
          refine q _ _ _ (((D6.new hl).new ht).le (by omega)) ((K6.new hl).new ht) (isX_app upd_same hw8 ?_ ((IA.mono N1).mono N2)) (okX_app hw8 (by omega) hok)
          exact N2' _ _ upd_same
    · intro nxt
      refine ⟨_, rfl, _, _, rfl, rfl, _, rfl, ?_⟩
      refine ite2 (fun c1 => ?_) (fun c1 => ?_)
      · have c1' : left < 2 := of_decide_eq_true c1
        refine ⟨_, rfl, by show 2 ≤ sizeLine; decide, fun p hp => ?_⟩
        have D2 := D1.new hp (o := .lst [.str "name", .str "skip"])
        have K2 := K1.new hp (o := .lst [.str "name", .str "skip"])
        have hh2 := K2.at hh hns
        refine ⟨p, _, rfl, .inl (SqL.of upd_same), rfl, rfl, _, rfl, ?_⟩
        generalize upd H1 p (.lst [.str "name", .str "skip"]) = H2 at D2 K2 hh2
        refine ite2 (fun c2 => ?_) (fun c2 => ?_)
        · refine ⟨by show 2 ≤ sizeLine; decide, fun p2 hp2 => ?_⟩
          have D3 := D2.new hp2 (o := .lst [.str "name", .str "made"])
          have K3 := K2.new hp2 (o := .lst [.str "name", .str "made"])
          have hh3 := K3.at hh hns
          have hp3 : upd H2 p2 (.lst [.str "name", .str "made"]) p2 = some (.lst [.str "name", .str "made"]) := upd_same
          generalize upd H2 p2 (.lst [.str "name", .str "made"]) = H3 at D3 K3 hh3 hp3
          refine ⟨_, rfl, hs, _, rfl, .inl (SqL.of hh3), rfl, flat_strs ws, _, rfl, ?_⟩
          refine ite2 (fun c3 => ?_) (fun c3 => ?_)
          · refine .inr ⟨_, rfl, p2, _, _, .str "made", rfl, rfl, SqL.of hp3, rfl, ?_⟩
            exact nxt _ _ ⟨"made", rfl, D3, K3, .inr rfl, fun _ => .inr (.inr rfl)⟩
          · have hname : (("name" : Str) ∈ ws) := by
              cases hv : inV (.str "name") (ws.map V.str) with
              | true => exact inV_strs.mp hv
              | false => rw [hv] at c3; exact absurd rfl c3
            refine ⟨_, rfl, _, _, rfl, rfl, ⟨by decide, by decide⟩, _, _, rfl, rfl, by show (0 : Int) < 2; decide, rfl, ?_⟩
            refine .inr ⟨_, rfl, ?_⟩
            cases decide (V.int (k / 8 % 2) = V.int 0) with
            | true =>
              refine ⟨p2, _, _, .str "made", rfl, rfl, SqL.of hp3, rfl, ?_⟩
              exact nxt _ _ ⟨"made", rfl, D3, K3, .inr rfl, fun _ => .inr (.inr rfl)⟩
            | false =>
              refine ⟨p2, _, _, .str "name", rfl, rfl, SqL.of hp3, rfl, ?_⟩
              exact nxt _ _ ⟨"name", rfl, D3, K3, .inl hname, fun _ => .inl rfl⟩
        · have hin : x0 ∈ (["name", "skip"] : List Str) := by
            cases hv : inV (.str x0) [.str "name", .str "skip"] with
            | true => exact inV_strs (ws := ["name", "skip"]).mp hv
            | false => rw [hv] at c2; exact absurd rfl c2
          refine nxt _ _ ⟨x0, rfl, D2, K2, .inl hx0m, fun _ => ?_⟩
          simp only [List.mem_cons, List.not_mem_nil, or_false] at hin
          rcases hin with h | h
          · exact .inl h
          · exact .inr (.inl h)
      · refine nxt _ _ ⟨x0, rfl, D1, K1, .inl hx0m, fun z => ?_⟩
        exact absurd z (of_decide_eq_false (Bool.eq_false_iff.mpr c1))
end
end Nf


set_option Elab.async false
set_option linter.all false
set_option maxRecDepth 100000
namespace Nf
open PySem L2
section
variable {P : Program} {w : World} {K : PySem.W.Frag} {mg : Str → Option Value} {base : Heap} {f fn a1 a2 a3 : Addr} {fd fnd d1 d2 d3 : FuncData}
def Dx.okB (b : Nat) : Nat → Dx → Bool
  | 0, _ => false
  | n + 1, .tup ds => decide (ds.length ≤ b) && ds.all (Dx.okB b n)
  | _ + 1, .str z => decide (z.length ≤ b)
  | _ + 1, _ => true
theorem Dx.okB_ok {b : Nat} : ∀ {n : Nat} {d : Dx}, Dx.okB b n d = true → Dx.ok b n d
  | 0, _, h => by cases h
  | n + 1, .tup ds, h => by
    unfold Dx.okB at h
    rw [Bool.and_eq_true] at h
    exact ⟨of_decide_eq_true h.1, fun d hd => Dx.okB_ok (List.all_eq_true.mp h.2 d hd)⟩
  | n + 1, .str z, h => by
    have h' : decide (z.length ≤ b) = true := h
    exact (of_decide_eq_true h' : z.length ≤ b)
  | n + 1, .non, _ => True.intro
  | n + 1, .bl _, _ => True.intro
  | n + 1, .int _, _ => True.intro
  | n + 1, .lst, _ => True.intro
  | n + 1, .dic, _ => True.intro
theorem isX_s {H : Hp} (z : Str) (h : decide (z.length ≤ 1000) = true) : IsX H (.str z) (.str z) := .str z (of_decide_eq_true h)
/-! ### odd things -/
abbrev s_odd : Stmt := top 28
abbrev N_odd : List Str := ["_law_number", "_law_some"]
abbrev P_odd : List Str := ["_law_number"]
theorem sc_odd : FnScope N_odd P_odd (defScope s_odd) := ⟨rfl, rfl, rfl, by decide +kernel, rfl, by decide +kernel, by decide +kernel⟩
def od1 : List Dx := [.non, .bl true, .bl false, .int 0, .int 1, .int (-1), .int (10 ^ 40), .str "", .str "a", .str "skip", .str "name", .str "made", .tup [], .lst, .dic, .tup [.str "skip"]]
def od2 : List Dx := [.tup [.str "made", .str "yes", .tup []], .tup [.str "name", .int 1], .str "truth", .str "same", .str "0", .str "007", .str "1000", .str "Ab", .str "abcdefghi", .tup [.tup []]]
def od3 : List Dx := [.tup [.str "name", .str "b"], .tup [.str "name"], .tup [.str "made", .str "a", .lst], .tup [.str "call", .str "a", .tup []], .tup [.str "skip", .tup []]]
theorem od_ok : ((od1 ++ od2) ++ od3).all (Dx.okB 16 3) = true := by decide +kernel
def spOdd : Sp := fun vs H Q _ => ∃ k : Int, vs = [.int k] ∧ 0 ≤ k ∧ ∀ v e H', Same H H' → IsX H' v e → Dx.ok 16 3 e → Q v H'
theorem ok_odd (T : Bt mg) (C_odd : Cal K mg "_law_odd" s_odd P_odd f fd) : FnOk P w K mg base CX0 1 f fd P_odd spOdd := by
  refine C_odd.F.ok sc_odd (fun vs H Q E h => ?_) (fun cdv A outer s H vs Q E hr h => ?_)
  · obtain ⟨k, rfl, _⟩ := h
    rfl
  obtain ⟨k, rfl, hk, q⟩ := h
  refine ⟨_, PSs.nox (pss_cons (ps_set (i := 1) sc_odd.nd rfl (Or.inl rfl) (pe_lst (pa_cons pe_non (pa_cons pe_bl (pa_cons pe_bl (pa_cons pe_int (pa_cons pe_int (pa_cons (pe_un un_neg pe_int) (pa_cons (pe_op op_pow pe_int pe_int) (pa_cons pe_str (pa_cons pe_str (pa_cons pe_str (pa_cons pe_str (pa_cons pe_str (pa_cons (pe_tup pa_nil) (pa_cons (pe_lst pa_nil) (pa_cons pe_dnewK (pa_cons (pe_tup (pa_cons pe_str pa_nil)) pa_nil))))))))))))))))))
    (pss_cons (ps_set (i := 1) sc_odd.nd rfl (Or.inl rfl) (pe_op op_cat (pv 1) (pe_lst (pa_cons (pe_tup (pa_cons pe_str (pa_cons pe_str (pa_cons (pe_tup pa_nil) pa_nil)))) (pa_cons (pe_tup (pa_cons pe_str (pa_cons pe_int pa_nil))) (pa_cons pe_str (pa_cons pe_str (pa_cons pe_str (pa_cons pe_str (pa_cons pe_str (pa_cons pe_str (pa_cons pe_str (pa_cons (pe_tup (pa_cons (pe_tup pa_nil) pa_nil)) pa_nil)))))))))))))
    (pss_cons (ps_set (i := 1) sc_odd.nd rfl (Or.inl rfl) (pe_op op_cat (pv 1) (pe_lst (pa_cons (pe_tup (pa_cons pe_str (pa_cons pe_str pa_nil))) (pa_cons (pe_tup (pa_cons pe_str pa_nil)) (pa_cons (pe_tup (pa_cons pe_str (pa_cons pe_str (pa_cons (pe_lst (pa_cons pe_str pa_nil)) pa_nil)))) (pa_cons (pe_tup (pa_cons pe_str (pa_cons pe_str (pa_cons (pe_tup pa_nil) pa_nil)))) (pa_cons (pe_tup (pa_cons pe_str (pa_cons (pe_tup pa_nil) pa_nil))) pa_nil))))))))
    (pss_one (ps_ret (pe_ix ix_list (pv 1) (pe_op op_mod (pv 0) (pe_callB call_len_seq (by rfl) T.t_len (by decide +kernel) (pa_cons (pv 1) pa_nil))) (fun _ _ => rfl))))))), ?_⟩
  refine ⟨_, rfl, _, _, rfl, rfl, ⟨by decide, by decide, by decide⟩, by show 0 ≤ sizeLine; decide, fun p1 hp1 => ?_⟩
  have m0 : IsXA H [.non, .bl true, .bl false, .int 0, .int 1, .int (-1), .int (10 ^ 40), .str "", .str "a", .str "skip", .str "name", .str "made"] [.non, .bl true, .bl false, .int 0, .int 1, .int (-1), .int (10 ^ 40), .str "", .str "a", .str "skip", .str "name", .str "made"] :=
    .cons .non (.cons (.bl _) (.cons (.bl _) (.cons (.int _) (.cons (.int _) (.cons (.int _) (.cons (.int _) (.cons (isX_s _ (by decide +kernel)) (.cons (isX_s _ (by decide +kernel)) (.cons (isX_s _ (by decide +kernel)) (.cons (isX_s _ (by decide +kernel)) (.cons (isX_s _ (by decide +kernel)) .nil)))))))))))
  have S1 := same_new hp1 (.tup [])
  have m1 := (m0.mono (KindS.of_same S1)).app (.cons (.tup upd_same .nil : IsX (upd H p1 (.tup [])) (.ref p1) (.tup [])) .nil)
  generalize upd H p1 (.tup []) = H1 at S1 m1
  refine ⟨by show 0 ≤ sizeLine; decide, fun p2 hp2 => ?_⟩
  have S2 := S1.new hp2 (o := .lst [])
  have m2 := (m1.mono (KindS.of_same (same_new hp2 (.lst [])))).app (.cons (.lst upd_same : IsX (upd H1 p2 (.lst [])) (.ref p2) .lst) .nil)
  generalize upd H1 p2 (.lst []) = H2 at S2 m2
  intro p3 hp3
  have S3 := S2.new hp3 (o := .dK [])
  have m3 := (m2.mono (KindS.of_same (same_new hp3 (.dK [])))).app (.cons (.dic upd_same : IsX (upd H2 p3 (.dK [])) (.ref p3) .dic) .nil)
  generalize upd H2 p3 (.dK []) = H3 at S3 m3
  refine ⟨by show 1 ≤ sizeLine; decide, fun p4 hp4 => ?_⟩
  have S4 := S3.new hp4 (o := .tup [.str "skip"])
  have m4 := (m3.mono (KindS.of_same (same_new hp4 (.tup [.str "skip"])))).app (.cons (.tup upd_same (.cons (isX_s _ (by decide +kernel)) .nil) : IsX (upd H3 p4 (.tup [.str "skip"])) (.ref p4) (.tup [.str "skip"])) .nil)
  generalize upd H3 p4 (.tup [.str "skip"]) = H4 at S4 m4
  refine ⟨by show 16 ≤ sizeLine; decide, fun l1 hl1 => ?_⟩
  have key : ∃ u1 H5, IsXA H5 u1 od1 ∧ H5 l1 = some (.lst u1) ∧ Same H H5 ∧ (upd H4 l1 (.lst [.non, .bl true, .bl false, .int 0, .int 1, .int (-1), .int (10 ^ 40), .str "", .str "a", .str "skip", .str "name", .str "made", .ref p1, .ref p2, .ref p3, .ref p4])) = H5 :=
    ⟨_, _, m4.mono (KindS.of_same (same_new hl1 _)), upd_same, S4.new hl1, rfl⟩
  obtain ⟨u1, H5, A1, hu1, S5, e5⟩ := key
  refine e5.symm ▸ ?_
  clear e5
  have L1 : u1.length = 16 := A1.len
  refine ⟨_, rfl, by show 0 ≤ sizeLine; decide, fun q1 hq1 => ?_⟩
  have T1 := S5.new hq1 (o := .tup [])
  have N1 := same_new hq1 (.tup [])
  refine ⟨by show 3 ≤ sizeLine; decide, fun q2 hq2 => ?_⟩
  have N2 := same_new hq2 (.tup [.str "made", .str "yes", .ref q1])
  have T2 := T1.trans N2
  have B2 : IsXA (upd (upd H5 q1 (.tup [])) q2 (.tup [.str "made", .str "yes", .ref q1])) [.ref q2] [.tup [.str "made", .str "yes", .tup []]] := .cons (.tup upd_same (.cons (isX_s _ (by decide +kernel)) (.cons (isX_s _ (by decide +kernel)) (.cons (.tup (N2 _ _ upd_same) .nil) .nil)))) .nil
  have A2 := A1.mono (KindS.of_same (N1.trans N2))
  have hu2 := (N1.trans N2) _ _ hu1
  generalize upd (upd H5 q1 (.tup [])) q2 (.tup [.str "made", .str "yes", .ref q1]) = H6 at T2 B2 A2 hu2
  refine ⟨by show 2 ≤ sizeLine; decide, fun q3 hq3 => ?_⟩
  have N3 := same_new hq3 (.tup [.str "name", .int 1])
  have B3 := (B2.mono (KindS.of_same N3)).app (.cons (.tup upd_same (.cons (isX_s _ (by decide +kernel)) (.cons (.int 1) .nil)) : IsX (upd H6 q3 (.tup [.str "name", .int 1])) (.ref q3) (.tup [.str "name", .int 1])) (.cons (isX_s "truth" (by decide +kernel)) (.cons (isX_s "same" (by decide +kernel)) (.cons (isX_s "0" (by decide +kernel)) (.cons (isX_s "007" (by decide +kernel)) (.cons (isX_s "1000" (by decide +kernel)) (.cons (isX_s "Ab" (by decide +kernel)) (.cons (isX_s "abcdefghi" (by decide +kernel)) .nil))))))))
  have T3 := T2.trans N3
  have A3 := A2.mono (KindS.of_same N3)
  have hu3 := N3 _ _ hu2
  generalize upd H6 q3 (.tup [.str "name", .int 1]) = H7 at T3 B3 A3 hu3
  refine ⟨by show 0 ≤ sizeLine; decide, fun q4 hq4 => ?_⟩
  have N4 := same_new hq4 (.tup [])
  refine ⟨by show 1 ≤ sizeLine; decide, fun q5 hq5 => ?_⟩
  have N5 := same_new hq5 (.tup [.ref q4])
  have N45 := N4.trans N5
  have B4 := (B3.mono (KindS.of_same N45)).app (.cons (.tup upd_same (.cons (.tup (N5 _ _ upd_same) .nil) .nil) : IsX (upd (upd H7 q4 (.tup [])) q5 (.tup [.ref q4])) (.ref q5) (.tup [.tup []])) .nil)
  have T4 := T3.trans N45
  have A4 := A3.mono (KindS.of_same N45)
  have hu4 := N45 _ _ hu3
  generalize upd (upd H7 q4 (.tup [])) q5 (.tup [.ref q4]) = H8 at T4 B4 A4 hu4
  refine ⟨by show 10 ≤ sizeLine; decide, fun l2 hl2 => ?_⟩
  have key : ∃ u2 H9, IsXA H9 u2 od2 ∧ H9 l2 = some (.lst u2) ∧ IsXA H9 u1 od1 ∧ H9 l1 = some (.lst u1) ∧ Same H H9 ∧ (upd H8 l2 (.lst [.ref q2, .ref q3, .str "truth", .str "same", .str "0", .str "007", .str "1000", .str "Ab", .str "abcdefghi", .ref q5])) = H9 :=
    ⟨_, _, B4.mono (KindS.of_same (same_new hl2 _)), upd_same, A4.mono (KindS.of_same (same_new hl2 _)), (same_new hl2 _) _ _ hu4, T4.new hl2, rfl⟩
  obtain ⟨u2, H9, C2, hc2, C1, hc1, S9, e9⟩ := key
  refine e9.symm ▸ ?_
  clear e9
  have L2 : u2.length = 10 := C2.len
  refine ⟨l1, l2, u1, u2, rfl, rfl, hc1, hc2, sz5 (by omega), fun l3 hl3 => ?_⟩
  have D1 := (C1.app C2).mono (KindS.of_same (same_new hl3 (.lst (u1 ++ u2))))
  have hd1 : upd H9 l3 (.lst (u1 ++ u2)) l3 = some (.lst (u1 ++ u2)) := upd_same
  have S10 := S9.new hl3 (o := .lst (u1 ++ u2))
  generalize upd H9 l3 (.lst (u1 ++ u2)) = H10 at D1 hd1 S10
  have L3 : (u1 ++ u2).length = 26 := by rw [List.length_append]; omega
  generalize u1 ++ u2 = u3 at D1 hd1 L3
  refine ⟨_, rfl, by show 2 ≤ sizeLine; decide, fun r1 hr1 => ?_⟩
  have N6 := same_new hr1 (.tup [.str "name", .str "b"])
  have E1 : IsXA (upd H10 r1 (.tup [.str "name", .str "b"])) [.ref r1] [.tup [.str "name", .str "b"]] := .cons (.tup upd_same (.cons (isX_s _ (by decide +kernel)) (.cons (isX_s _ (by decide +kernel)) .nil))) .nil
  have D2 := D1.mono (KindS.of_same N6)
  have hd2 := N6 _ _ hd1
  have S11 := S10.trans N6
  generalize upd H10 r1 (.tup [.str "name", .str "b"]) = H11 at E1 D2 hd2 S11
  refine ⟨by show 1 ≤ sizeLine; decide, fun r2 hr2 => ?_⟩
  have N7 := same_new hr2 (.tup [.str "name"])
  have E2 := (E1.mono (KindS.of_same N7)).app (.cons (.tup upd_same (.cons (isX_s _ (by decide +kernel)) .nil) : IsX (upd H11 r2 (.tup [.str "name"])) (.ref r2) (.tup [.str "name"])) .nil)
  have D3 := D2.mono (KindS.of_same N7)
  have hd3 := N7 _ _ hd2
  have S12 := S11.trans N7
  generalize upd H11 r2 (.tup [.str "name"]) = H12 at E2 D3 hd3 S12
  refine ⟨by show 1 ≤ sizeLine; decide, fun r3 hr3 => ⟨by show 3 ≤ sizeLine; decide, fun r4 hr4 => ?_⟩⟩
  have N8 := same_new hr3 (.lst [.str "b"])
  have N9 := same_new hr4 (.tup [.str "made", .str "a", .ref r3])
  have N89 := N8.trans N9
  have E3 := (E2.mono (KindS.of_same N89)).app (.cons (.tup upd_same (.cons (isX_s _ (by decide +kernel)) (.cons (isX_s _ (by decide +kernel)) (.cons (.lst (N9 _ _ upd_same)) .nil))) : IsX (upd (upd H12 r3 (.lst [.str "b"])) r4 (.tup [.str "made", .str "a", .ref r3])) (.ref r4) (.tup [.str "made", .str "a", .lst])) .nil)
  have D4 := D3.mono (KindS.of_same N89)
  have hd4 := N89 _ _ hd3
  have S13 := S12.trans N89
  generalize upd (upd H12 r3 (.lst [.str "b"])) r4 (.tup [.str "made", .str "a", .ref r3]) = H13 at E3 D4 hd4 S13
  refine ⟨by show 0 ≤ sizeLine; decide, fun r5 hr5 => ⟨by show 3 ≤ sizeLine; decide, fun r6 hr6 => ?_⟩⟩
  have N10 := same_new hr5 (.tup [])
  have N11 := same_new hr6 (.tup [.str "call", .str "a", .ref r5])
  have N1011 := N10.trans N11
  have E4 := (E3.mono (KindS.of_same N1011)).app (.cons (.tup upd_same (.cons (isX_s _ (by decide +kernel)) (.cons (isX_s _ (by decide +kernel)) (.cons (.tup (N11 _ _ upd_same) .nil) .nil))) : IsX (upd (upd H13 r5 (.tup [])) r6 (.tup [.str "call", .str "a", .ref r5])) (.ref r6) (.tup [.str "call", .str "a", .tup []])) .nil)
  have D5 := D4.mono (KindS.of_same N1011)
  have hd5 := N1011 _ _ hd4
  have S14 := S13.trans N1011
  generalize upd (upd H13 r5 (.tup [])) r6 (.tup [.str "call", .str "a", .ref r5]) = H14 at E4 D5 hd5 S14
  refine ⟨by show 0 ≤ sizeLine; decide, fun r7 hr7 => ⟨by show 2 ≤ sizeLine; decide, fun r8 hr8 => ?_⟩⟩
  have N12 := same_new hr7 (.tup [])
  have N13 := same_new hr8 (.tup [.str "skip", .ref r7])
  have N1213 := N12.trans N13
  have E5 := (E4.mono (KindS.of_same N1213)).app (.cons (.tup upd_same (.cons (isX_s _ (by decide +kernel)) (.cons (.tup (N13 _ _ upd_same) .nil) .nil)) : IsX (upd (upd H14 r7 (.tup [])) r8 (.tup [.str "skip", .ref r7])) (.ref r8) (.tup [.str "skip", .tup []])) .nil)
  have D6 := D5.mono (KindS.of_same N1213)
  have hd6 := N1213 _ _ hd5
  have S15 := S14.trans N1213
  generalize upd (upd H14 r7 (.tup [])) r8 (.tup [.str "skip", .ref r7]) = H15 at E5 D6 hd6 S15
  refine ⟨by show 5 ≤ sizeLine; decide, fun l4 hl4 => ?_⟩
  have key : ∃ u4 H16, IsXA H16 u4 od3 ∧ H16 l4 = some (.lst u4) ∧ IsXA H16 u3 (od1 ++ od2) ∧ H16 l3 = some (.lst u3) ∧ Same H H16 ∧ (upd H15 l4 (.lst [.ref r1, .ref r2, .ref r4, .ref r6, .ref r8])) = H16 :=
    ⟨_, _, E5.mono (KindS.of_same (same_new hl4 _)), upd_same, D6.mono (KindS.of_same (same_new hl4 _)), (same_new hl4 _) _ _ hd6, S15.new hl4, rfl⟩
  obtain ⟨u4, H16, F2, hf2, F1, hf1, S16, e16⟩ := key
  refine e16.symm ▸ ?_
  clear e16
  have L4 : u4.length = 5 := F2.len
  refine ⟨l3, l4, u3, u4, rfl, rfl, hf1, hf2, sz5 (by omega), fun l5 hl5 => ?_⟩
  have G1 := (F1.app F2).mono (KindS.of_same (same_new hl5 (.lst (u3 ++ u4))))
  have hg1 : upd H16 l5 (.lst (u3 ++ u4)) l5 = some (.lst (u3 ++ u4)) := upd_same
  have S17 := S16.new hl5 (o := .lst (u3 ++ u4))
  generalize upd H16 l5 (.lst (u3 ++ u4)) = H17 at G1 hg1 S17
  have hpos : (0 : Int) < (((u3 ++ u4).length : Nat) : Int) := by rw [List.length_append]; omega
  have hr := mod_range (k := k) hpos
  obtain ⟨v, hv, hv2⟩ := atV (xs := u3 ++ u4) hr.1 hr.2
  obtain ⟨e, he, hve⟩ := G1.get hv2
  refine ⟨_, rfl, _, rfl, _, rfl, l5, _, rfl, .inl (SqL.of hg1), _, _, rfl, rfl, hpos, l5, _, _, v, rfl, rfl, SqL.of hg1, hv, ?_⟩
  exact q v e _ S17 hve (Dx.okB_ok (List.all_eq_true.mp od_ok e (List.mem_of_getElem? he)))
end
end Nf


set_option Elab.async false
set_option linter.all false
set_option maxRecDepth 100000
namespace Nf
open PySem L2
section
variable {P : Program} {w : World} {K : PySem.W.Frag} {mg : Str → Option Value} {base : Heap} {f fn a1 a2 a3 : Addr} {fd fnd d1 d2 d3 : FuncData}
/-! ### a text, bent -/
abbrev s_text_bent : Stmt := top 29
abbrev N_text_bent : List Str := ["_law_number", "_law_text", "_law_sign", "_law_spot", "_law_some"]
abbrev P_text_bent : List Str := ["_law_number", "_law_text"]
theorem sc_text_bent : FnScope N_text_bent P_text_bent (defScope s_text_bent) := ⟨rfl, rfl, rfl, by decide +kernel, rfl, by decide +kernel, by decide +kernel⟩
def spTbent : Sp := fun vs H Q _ => ∃ (k : Int) (z : Str), vs = [.int k, .str z] ∧ 0 ≤ k ∧ z.length ≤ 1000 ∧ ∀ z' H', Same H H' → z'.length ≤ 2 * z.length + 1 → Q (.str z') H'
theorem ok_tbent (T : Bt mg) (C_text_bent : Cal K mg "_law_text_bent" s_text_bent P_text_bent f fd) : FnOk P w K mg base CX0 1 f fd P_text_bent spTbent := by
  refine C_text_bent.F.ok sc_text_bent (fun vs H Q E h => ?_) (fun cdv A outer s H vs Q E hr h => ?_)
  · obtain ⟨k, z, rfl, _⟩ := h
    rfl
  obtain ⟨k, z, rfl, hk, hz, q⟩ := h
  refine ⟨_, PSs.nox (pss_cons (ps_set (i := 2) sc_text_bent.nd rfl (Or.inl rfl) (pe_ix ix_list (pe_lst (pa_cons pe_str (pa_cons pe_str (pa_cons pe_str (pa_cons pe_str (pa_cons pe_str (pa_cons pe_str (pa_cons pe_str (pa_cons pe_str pa_nil))))))))) (pe_op op_mod (pe_op op_fdiv (pv 0) pe_int) pe_int) (fun _ _ => rfl)))
    (pss_cons (ps_set (i := 3) sc_text_bent.nd rfl (Or.inl rfl) (pe_op op_mod (pe_op op_fdiv (pv 0) pe_int) (pe_op op_add (pe_callB call_len_str (by rfl) T.t_len (by decide +kernel) (pa_cons (pv 1) pa_nil)) pe_int)))
    (pss_cons (ps_set (i := 4) sc_text_bent.nd rfl (Or.inl rfl) (pe_lst (pa_cons (pe_op op_add_str (pe_op op_add_str (pe_slice sl_str (pv 1) po_none (po_some (pv 3))) (pv 2)) (pe_slice sl_str (pv 1) (po_some (pv 3)) po_none)) (pa_cons (pe_op op_add_str (pe_op op_add_str (pe_slice sl_str (pv 1) po_none (po_some (pv 3))) (pv 2)) (pe_slice sl_str (pv 1) (po_some (pe_op op_add (pv 3) pe_int)) po_none)) (pa_cons (pe_op op_add_str (pe_slice sl_str (pv 1) po_none (po_some (pv 3))) (pe_slice sl_str (pv 1) (po_some (pe_op op_add (pv 3) pe_int)) po_none)) pa_nil)))))
    (pss_one (ps_ret (pe_ix ix_list (pv 4) (pe_op op_mod (pv 0) pe_int) (fun _ _ => rfl))))))), ?_⟩
  have hzl : z.length ≤ sizeLine := sz5 (by omega)
  refine ⟨by show 8 ≤ sizeLine; decide, fun p1 hp1 => ?_⟩
  have S1 := same_new hp1 (.lst [.str "a", .str "z", .str "0", .str "9", .str "A", .str " ", .str "-", .str "_"])
  have hpp : upd H p1 (.lst [.str "a", .str "z", .str "0", .str "9", .str "A", .str " ", .str "-", .str "_"]) p1 = some (.lst ((["a", "z", "0", "9", "A", " ", "-", "_"] : List Str).map V.str)) := upd_same
  generalize upd H p1 (.lst [.str "a", .str "z", .str "0", .str "9", .str "A", .str " ", .str "-", .str "_"]) = H1 at S1 hpp
  have hr1 := mod_range (k := k / 3) (m := 8) (by decide)
  obtain ⟨x, hx, hxm, _⟩ := at_nat (xs := (["a", "z", "0", "9", "A", " ", "-", "_"] : List Str)) (f := V.str) hr1.1 hr1.2
  have hx1 : x.length ≤ 1 := by
    have : ∀ y ∈ (["a", "z", "0", "9", "A", " ", "-", "_"] : List Str), y.length ≤ 1 := by decide +kernel
    exact this x hxm
  refine ⟨_, rfl, _, _, rfl, rfl, ⟨by decide, by decide⟩, _, _, rfl, rfl, by show (0 : Int) < 8; decide, p1, _, _, _, rfl, rfl, SqL.of hpp, hx, ?_⟩
  refine ⟨_, rfl, _, _, rfl, rfl, ⟨by decide, by decide⟩, _, rfl, z, rfl, hzl, _, _, rfl, rfl, _, _, rfl, rfl, by omega, ?_⟩
  have c1 := cutS_length z none (some (k / 24 % (((z.length : Nat) : Int) + 1)))
  have c2 := cutS_length z (some (k / 24 % (((z.length : Nat) : Int) + 1))) none
  have c3 := cutS_length z (some (k / 24 % (((z.length : Nat) : Int) + 1) + 1)) none
  refine ⟨_, rfl, _, rfl, _, rfl, z, rfl, hzl, _, rfl, _, _, rfl, rfl, sz5 (by omega), ?_⟩
  have l1 := str_len (cutS z none (some (k / 24 % (((z.length : Nat) : Int) + 1)))) x
  refine ⟨_, rfl, _, rfl, _, rfl, z, rfl, hzl, _, _, rfl, rfl, sz5 (by omega), ?_⟩
  refine ⟨_, rfl, _, rfl, _, rfl, z, rfl, hzl, _, rfl, _, _, rfl, rfl, sz5 (by omega), ?_⟩
  refine ⟨_, rfl, _, rfl, _, _, rfl, rfl, _, rfl, z, rfl, hzl, _, _, rfl, rfl, sz5 (by omega), ?_⟩
  refine ⟨_, rfl, _, rfl, _, rfl, z, rfl, hzl, ?_⟩
  refine ⟨_, rfl, _, rfl, _, _, rfl, rfl, _, rfl, z, rfl, hzl, _, _, rfl, rfl, sz5 (by omega), by show 3 ≤ sizeLine; decide, fun p2 hp2 => ?_⟩
  have l2 := str_len (cutS z none (some (k / 24 % (((z.length : Nat) : Int) + 1))) ++ x) (cutS z (some (k / 24 % (((z.length : Nat) : Int) + 1))) none)
  have l3 := str_len (cutS z none (some (k / 24 % (((z.length : Nat) : Int) + 1))) ++ x) (cutS z (some (k / 24 % (((z.length : Nat) : Int) + 1) + 1)) none)
  have l4 := str_len (cutS z none (some (k / 24 % (((z.length : Nat) : Int) + 1)))) (cutS z (some (k / 24 % (((z.length : Nat) : Int) + 1) + 1)) none)
  have hm : ∀ y ∈ ([cutS z none (some (k / 24 % (((z.length : Nat) : Int) + 1))) ++ x ++ cutS z (some (k / 24 % (((z.length : Nat) : Int) + 1))) none, cutS z none (some (k / 24 % (((z.length : Nat) : Int) + 1))) ++ x ++ cutS z (some (k / 24 % (((z.length : Nat) : Int) + 1) + 1)) none, cutS z none (some (k / 24 % (((z.length : Nat) : Int) + 1))) ++ cutS z (some (k / 24 % (((z.length : Nat) : Int) + 1) + 1)) none] : List Str), y.length ≤ 2 * z.length + 1 := by
    intro y hy
    simp only [List.mem_cons, List.not_mem_nil, or_false] at hy
    rcases hy with rfl | rfl | rfl <;> omega
  have hr2 := mod_range (k := k) (m := 3) (by decide)
  obtain ⟨y, hy, hym, _⟩ := at_nat (xs := [cutS z none (some (k / 24 % (((z.length : Nat) : Int) + 1))) ++ x ++ cutS z (some (k / 24 % (((z.length : Nat) : Int) + 1))) none, cutS z none (some (k / 24 % (((z.length : Nat) : Int) + 1))) ++ x ++ cutS z (some (k / 24 % (((z.length : Nat) : Int) + 1) + 1)) none, cutS z none (some (k / 24 % (((z.length : Nat) : Int) + 1))) ++ cutS z (some (k / 24 % (((z.length : Nat) : Int) + 1) + 1)) none]) (f := V.str) hr2.1 hr2.2
  refine ⟨_, rfl, _, rfl, _, _, rfl, rfl, by show (0 : Int) < 3; decide, p2, _, _, _, rfl, rfl, SqL.of upd_same, hy, ?_⟩
  exact q y _ (S1.new hp2) (hm y hym)
end
end Nf


set_option Elab.async false
set_option linter.all false
set_option maxRecDepth 100000
namespace Nf
open PySem L2
section
variable {P : Program} {w : World} {K : PySem.W.Frag} {mg : Str → Option Value} {base : Heap} {f fn a1 a2 a3 : Addr} {fd fnd d1 d2 d3 : FuncData}
theorem IsXA.take {H : Hp} : ∀ {vs : List V} {ds : List Dx} (n : Nat), IsXA H vs ds → IsXA H (vs.take n) (ds.take n)
  | _, _, 0, _ => .nil
  | _, _, _ + 1, .nil => .nil
  | _, _, n + 1, .cons h q => .cons h (IsXA.take n q)
theorem IsXA.drop {H : Hp} : ∀ {vs : List V} {ds : List Dx} (n : Nat), IsXA H vs ds → IsXA H (vs.drop n) (ds.drop n)
  | _, _, 0, r => r
  | _, _, _ + 1, .nil => .nil
  | _, _, n + 1, .cons _ q => IsXA.drop n q
theorem IsXA.rev {H : Hp} : ∀ {ws : List V} {ds : List Dx}, IsXA H ws ds → IsXA H ws.reverse ds.reverse
  | _, _, .nil => .nil
  | _, _, .cons a b => by
    rw [List.reverse_cons, List.reverse_cons]
    exact (IsXA.rev b).app (.cons a .nil)
theorem IsXA.cut {H : Hp} {vs : List V} {ds : List Dx} (h : IsXA H vs ds) (lo hi : Option Int) : ∃ es, IsXA H (cutV vs lo hi) es ∧ ∀ e ∈ es, e ∈ ds :=
  ⟨_, (h.drop _).take _, fun e he => List.mem_of_mem_drop (List.mem_of_mem_take he)⟩
/-! ### data, bent -/
abbrev s_bent : Stmt := top 30
abbrev N_bent : List Str := ["_law_deck_here", "_law_thing", "_law_number", "_law_spot", "_law_new"]
abbrev P_bent : List Str := ["_law_deck_here", "_law_thing"]
theorem sc_bent : FnScope N_bent P_bent (defScope s_bent) := ⟨rfl, rfl, rfl, by decide +kernel, rfl, by decide +kernel, by decide +kernel⟩
def spBent (n : Nat) : Sp := fun vs H Q _ => ∃ (d g c : Addr) (N : Nat) (x : V) (e : Dx) (b : Nat), vs = [.ref d, x] ∧ Deck H d g c N ∧ N + 2 * n < 2 ^ 40 ∧ IsX H x e ∧ Dx.ok b n e ∧ b ≤ 400 ∧
  ∀ v e' H', Deck H' d g c (N + 2 * n) → Keep [d, g, c] H H' → IsX H' v e' → Dx.ok (2 * b + 20) (n + 3) e' → Q v H'
theorem ok_bent (T : Bt mg) (C_bent : Cal K mg "_law_bent" s_bent P_bent f fd) (C_next : Cal K mg "_law_next" s_next P_next fn fnd) (G_next : FnOk P w K mg base CX0 1 fn fnd P_next spNext)
    (C_text_bent : Cal K mg "_law_text_bent" s_text_bent P_text_bent a1 d1) (G_text_bent : FnOk P w K mg base CX0 1 a1 d1 P_text_bent spTbent)
    (C_odd : Cal K mg "_law_odd" s_odd P_odd a2 d2) (G_odd : FnOk P w K mg base CX0 1 a2 d2 P_odd spOdd) : ∀ n : Nat, FnOk P w K mg base CX0 (n + 1) f fd P_bent (spBent n)
  | 0 => fn_never fun vs H Q E ⟨_, _, _, _, _, _, _, _, _, _, _, h, _⟩ => h.elim
  | n + 1 => by
    have G_bent := ok_bent T C_bent C_next G_next C_text_bent G_text_bent C_odd G_odd n
    refine C_bent.F.ok sc_bent (fun vs H Q E h => ?_) (fun cdv A outer s H vs Q E hr h => ?_)
    · obtain ⟨d, g, c, N, x, e, b, rfl, _⟩ := h
      rfl
    obtain ⟨d, g, c, N, x, e, b, rfl, D, hN, hx, ho, hb, q⟩ := h
    refine ⟨_, PSs.nox (pss_cons (ps_set (i := 2) sc_bent.nd rfl (Or.inl rfl) (pe_call G_next (hr.mono (by omega)) (by rfl) C_next.m C_next.F.kp C_next.b .nil pass0 (pa_cons (pv 0) pa_nil)))
      (pss_cons (ps_if (PW.pt (pw_and (pt_val (pe_callB call_isi (by rfl) T.t_isinstance (by decide +kernel) (pa_cons (pv 1) (pa_cons (pe_bltn (v := .ty "str") (by rfl) T.t_str (by decide +kernel) rfl) pa_nil)))) (pw_and1 (pt_cmpR op_gt (pe_op op_mod (pv 2) pe_int) pe_int (nomark _))))) (pss_one (ps_ret (pe_call G_text_bent (hr.mono (by omega)) (by rfl) C_text_bent.m C_text_bent.F.kp C_text_bent.b .nil pass0 (pa_cons (pe_op op_fdiv (pv 2) pe_int) (pa_cons (pv 1) pa_nil))))) pss_nil)
      (pss_cons (ps_if (PW.pt (pw_and (pt_val (pe_callB call_isi (by rfl) T.t_isinstance (by decide +kernel) (pa_cons (pv 1) (pa_cons (pe_bltn (v := .ty "tuple") (by rfl) T.t_tuple (by decide +kernel) rfl) pa_nil)))) (pw_and (pt_cmpR (op_ne_nilT hr.units0) (pv 1) (pe_tup pa_nil) (nomark _)) (pw_and1 (pt_cmpR op_gt (pe_op op_mod (pv 2) pe_int) pe_int (nomark _)))))) (pss_cons (ps_set (i := 3) sc_bent.nd rfl (Or.inl rfl) (pe_op op_mod (pe_call G_next (hr.mono (by omega)) (by rfl) C_next.m C_next.F.kp C_next.b .nil pass0 (pa_cons (pv 0) pa_nil)) (pe_callB call_len_seq (by rfl) T.t_len (by decide +kernel) (pa_cons (pv 1) pa_nil))))
      (pss_cons (ps_set (i := 4) sc_bent.nd rfl (Or.inl rfl) (pe_tup (pa_cons (pe_call G_bent (hr.mono (by omega)) (by rfl) C_bent.m C_bent.F.kp C_bent.b .nil pass0 (pa_cons (pv 0) (pa_cons (pe_ix ix_tup (pv 1) (pv 3) (fun _ _ => rfl)) pa_nil))) pa_nil)))
      (pss_cons (ps_if (pt_cmpR op_eq (pe_op op_mod (pe_op op_fdiv (pv 2) pe_int) pe_int) pe_int (nomark _)) (pss_one (ps_set (i := 4) sc_bent.nd rfl (Or.inl rfl) (pe_ix ix_list (pe_lst (pa_cons (pe_tup pa_nil) (pa_cons (pe_tup (pa_cons (pe_ix ix_tup (pv 1) (pv 3) (fun _ _ => rfl)) (pa_cons (pe_ix ix_tup (pv 1) (pv 3) (fun _ _ => rfl)) pa_nil))) (pa_cons (pe_tup (pa_cons (pe_ix ix_tup (pv 1) (pe_op op_mod (pe_op op_fdiv (pv 2) pe_int) (pe_callB call_len_seq (by rfl) T.t_len (by decide +kernel) (pa_cons (pv 1) pa_nil))) (fun _ _ => rfl)) pa_nil)) pa_nil)))) (pe_op op_mod (pe_op op_fdiv (pv 2) pe_int) pe_int) (fun _ _ => rfl)))) pss_nil)
      (pss_one (ps_ret (pe_op op_catA (pe_op op_catA (pe_slice sl_tupA (pv 1) po_none (po_some (pv 3))) (pv 4)) (pe_slice sl_tupA (pv 1) (po_some (pe_op op_add (pv 3) pe_int)) po_none))))))) pss_nil)
      (pss_cons (ps_if (PW.pt (pw_and (pt_val (pe_callB call_isi (by rfl) T.t_isinstance (by decide +kernel) (pa_cons (pv 1) (pa_cons (pe_bltn (v := .ty "tuple") (by rfl) T.t_tuple (by decide +kernel) rfl) pa_nil)))) (pw_and1 (pt_cmpR op_eq (pe_op op_mod (pe_op op_fdiv (pv 2) pe_int) pe_int) pe_int (nomark _))))) (pss_one (ps_ret (pe_ix ix_list (pe_lst (pa_cons (pe_callTy call_list_of (by rfl) T.t_list (by decide +kernel) (pa_cons (pv 1) pa_nil)) (pa_cons (pe_revT (pv 1)) (pa_cons (pe_op op_catA (pv 1) (pv 1)) pa_nil)))) (pe_op op_mod (pe_op op_fdiv (pv 2) pe_int) pe_int) (fun _ _ => rfl)))) pss_nil)
      (pss_one (ps_ret (pe_call G_odd (hr.mono (by omega)) (by rfl) C_odd.m C_odd.F.kp C_odd.b .nil pass0 (pa_cons (pe_op op_fdiv (pv 2) pe_int) pa_nil)))))))), ?_⟩
    refine ⟨_, rfl, d, g, c, N, rfl, D, by omega, fun k H1 hk0 hk1 D1 K1 => ?_⟩
    have hx1 := hx.mono (D.kind D1 K1)
    have qo : ∀ v e' H', Same H1 H' → IsX H' v e' → Dx.ok 16 3 e' → Q v H' := fun v e' H' S' I' o' =>
      q v e' H' ((D1.same S').le (by omega)) (K1.trans (Keep.of_same S')) I' (Dx.ok_mono (by omega) (by omega) o')
    clear hx
    cases hx1 with
    | non => exact ⟨_, rfl, _, _, _, _, false, rfl, .ty _, .base .non, kit_ty (by decide +kernel), _, rfl, iteF ⟨_, rfl, _, _, _, _, false, rfl, .ty _, .base .non, kit_ty (by decide +kernel), _, rfl, iteF ⟨_, rfl, _, _, _, _, false, rfl, .ty _, .base .non, kit_ty (by decide +kernel), _, rfl, iteF ⟨_, rfl, _, _, rfl, rfl, ⟨by decide, by decide⟩, _, rfl, by omega, qo⟩⟩⟩⟩
    | bl z => exact ⟨_, rfl, _, _, _, _, false, rfl, .ty _, .base (.bl z), kit_ty (by decide +kernel), _, rfl, iteF ⟨_, rfl, _, _, _, _, false, rfl, .ty _, .base (.bl z), kit_ty (by decide +kernel), _, rfl, iteF ⟨_, rfl, _, _, _, _, false, rfl, .ty _, .base (.bl z), kit_ty (by decide +kernel), _, rfl, iteF ⟨_, rfl, _, _, rfl, rfl, ⟨by decide, by decide⟩, _, rfl, by omega, qo⟩⟩⟩⟩
    | int z => exact ⟨_, rfl, _, _, _, _, false, rfl, .ty _, .base (.int z), kit_ty (by decide +kernel), _, rfl, iteF ⟨_, rfl, _, _, _, _, false, rfl, .ty _, .base (.int z), kit_ty (by decide +kernel), _, rfl, iteF ⟨_, rfl, _, _, _, _, false, rfl, .ty _, .base (.int z), kit_ty (by decide +kernel), _, rfl, iteF ⟨_, rfl, _, _, rfl, rfl, ⟨by decide, by decide⟩, _, rfl, by omega, qo⟩⟩⟩⟩
    | lst h => exact ⟨_, rfl, _, _, _, _, false, rfl, .ty _, .base (.lst h), kit_ty (by decide +kernel), _, rfl, iteF ⟨_, rfl, _, _, _, _, false, rfl, .ty _, .base (.lst h), kit_ty (by decide +kernel), _, rfl, iteF ⟨_, rfl, _, _, _, _, false, rfl, .ty _, .base (.lst h), kit_ty (by decide +kernel), _, rfl, iteF ⟨_, rfl, _, _, rfl, rfl, ⟨by decide, by decide⟩, _, rfl, by omega, qo⟩⟩⟩⟩
    | dic h => exact ⟨_, rfl, _, _, _, _, false, rfl, .ty _, .base (.dK h), kit_ty (by decide +kernel), _, rfl, iteF ⟨_, rfl, _, _, _, _, false, rfl, .ty _, .base (.dK h), kit_ty (by decide +kernel), _, rfl, iteF ⟨_, rfl, _, _, _, _, false, rfl, .ty _, .base (.dK h), kit_ty (by decide +kernel), _, rfl, iteF ⟨_, rfl, _, _, rfl, rfl, ⟨by decide, by decide⟩, _, rfl, by omega, qo⟩⟩⟩⟩
    | str z l =>
      refine ⟨_, rfl, _, _, _, _, true, rfl, .ty _, .base (.str z), kit_ty (by decide +kernel), _, rfl, iteT ?_⟩
      refine ⟨_, rfl, _, _, rfl, rfl, by show (0 : Int) < 4; decide, _, _, rfl, rfl, _, rfl, ?_⟩
      refine ite2 (fun c1 => ?_) (fun c1 => ?_)
      · refine ⟨_, rfl, _, _, rfl, rfl, ⟨by decide, by decide⟩, _, rfl, _, z, rfl, by omega, l, fun z' H' S' hz' => ?_⟩
        have hzb : z.length ≤ b := ho
        refine q _ (.str z') H' ((D1.same S').le (by omega)) (K1.trans (Keep.of_same S')) (.str z' (by omega)) (show z'.length ≤ 2 * b + 20 by omega)
      · exact ⟨_, rfl, _, _, _, _, false, rfl, .ty _, .base (.str z), kit_ty (by decide +kernel), _, rfl, iteF ⟨_, rfl, _, _, _, _, false, rfl, .ty _, .base (.str z), kit_ty (by decide +kernel), _, rfl, iteF ⟨_, rfl, _, _, rfl, rfl, ⟨by decide, by decide⟩, _, rfl, by omega, qo⟩⟩⟩
    | @tup a xs ds ha hs =>
      refine ⟨_, rfl, _, _, _, _, false, rfl, .ty _, .base (.tup ha), kit_ty (by decide +kernel), _, rfl, iteF ?_⟩
      have hsl := hs.len
      have hdb : ds.length ≤ b := ho.1
      refine next_in ?_
      dsimp only
      refine seq_cut (t1 := tIfS _ _ _) (fun σ' H' => σ' = [some (.ref d), some (.ref a), some (.int k), none, none] ∧ Same H1 H') ?_ ?_
      · rintro σ' H2 ⟨rfl, S2⟩
        have ha2 := S2 _ _ ha
        have hs2 := hs.mono (KindS.of_same S2)
        refine ⟨_, rfl, _, _, _, _, true, rfl, .ty _, .base (.tup ha2), kit_ty (by decide +kernel), _, rfl, iteT ?_⟩
        refine ⟨_, rfl, _, _, rfl, rfl, ⟨by decide, by decide⟩, _, _, rfl, rfl, by show (0 : Int) < 3; decide, rfl, _, rfl, ?_⟩
        refine ite2 (fun c1 => ?_) (fun c1 => ?_)
        · refine ⟨_, rfl, a, _, rfl, .inr (SqT.of ha2), fun l hl => ?_⟩
          have N3 := same_new hl (.lst xs)
          have I3 : IsXA (upd H2 l (.lst xs)) [.ref l] [.lst] := .cons (.lst upd_same) .nil
          have S3 := S2.trans N3
          have ha3 := N3 _ _ ha2
          generalize upd H2 l (.lst xs) = H3 at N3 I3 S3 ha3
          refine ⟨_, rfl, a, _, rfl, SqT.of ha3, fun t ht => ?_⟩
          have N4 := same_new ht (.tup xs.reverse)
          have I4 := (I3.mono (KindS.of_same N4)).app (.cons (.tup upd_same (hs2.mono (KindS.of_same (N3.trans N4))).rev : IsX (upd H3 t (.tup xs.reverse)) (.ref t) (.tup ds.reverse)) .nil)
          have S4 := S3.trans N4
          have ha4 := N4 _ _ ha3
          generalize upd H3 t (.tup xs.reverse) = H4 at I4 S4 ha4
          refine ⟨_, rfl, _, rfl, cat_any ha4 ha4 (by omega) fun u H5 N5 hu => ?_⟩
          have I5 := (I4.mono (KindS.of_same N5)).app (.cons (.tup hu ((hs.mono (KindS.of_same (S4.trans N5))).app (hs.mono (KindS.of_same (S4.trans N5)))) : IsX H5 (.ref u) (.tup (ds ++ ds))) .nil)
          have S5 := S4.trans N5
          refine ⟨by show 3 ≤ sizeLine; decide, fun l2 hl2 => ?_⟩
          have I6 := I5.mono (KindS.of_same (same_new hl2 (.lst [.ref l, .ref t, .ref u])))
          have S6 := S5.new hl2 (o := .lst [.ref l, .ref t, .ref u])
          have hl6 : upd H5 l2 (.lst [.ref l, .ref t, .ref u]) l2 = some (.lst [.ref l, .ref t, .ref u]) := upd_same
          generalize upd H5 l2 (.lst [.ref l, .ref t, .ref u]) = H6 at I6 S6 hl6
          have hr3 := mod_range (k := k / 15) (m := 3) (by decide)
          obtain ⟨v, hv, hv2⟩ := atV (xs := [.ref l, .ref t, .ref u]) hr3.1 hr3.2
          obtain ⟨e', he', hve⟩ := I6.get hv2
          refine ⟨_, rfl, _, _, rfl, rfl, ⟨by decide, by decide⟩, _, _, rfl, rfl, by show (0 : Int) < 3; decide, l2, _, _, v, rfl, rfl, SqL.of hl6, hv, ?_⟩
          refine q v e' H6 ((D1.same S6).le (by omega)) (K1.trans (Keep.of_same S6)) hve ?_
          have hm := List.mem_of_getElem? he'
          simp only [List.mem_cons, List.not_mem_nil, or_false, List.cons_append, List.nil_append] at hm
          rcases hm with rfl | rfl | rfl
          · exact True.intro
          · exact ⟨by rw [List.length_reverse]; omega, fun y hy => Dx.ok_mono (by omega) (by omega) (ho.2 y (List.mem_reverse.mp hy))⟩
          · refine ⟨by rw [List.length_append]; omega, fun y hy => ?_⟩
            rcases List.mem_append.mp hy with hy | hy <;> exact Dx.ok_mono (by omega) (by omega) (ho.2 y hy)
        · exact ⟨_, rfl, _, _, rfl, rfl, ⟨by decide, by decide⟩, _, rfl, by omega, fun v e' H' S' I' o' => qo v e' H' (S2.trans S') I' o'⟩
      · intro nxt
        refine ⟨_, rfl, _, _, _, _, true, rfl, .ty _, .base (.tup ha), kit_ty (by decide +kernel), _, rfl, iteT ?_⟩
        refine ⟨_, rfl, by show 0 ≤ sizeLine; decide, fun p0 hp0 => ?_⟩
        have S2 := same_new hp0 (.tup [])
        have ha2 := S2 _ _ ha
        have hs2 := hs.mono (KindS.of_same S2)
        refine ⟨a, p0, xs, rfl, rfl, SqT.of ha2, SqT.of upd_same, _, rfl, ?_⟩
        generalize upd H1 p0 (.tup []) = H2 at S2 ha2 hs2
        refine ite2 (fun c1 => ?_) (fun c1 => ?_)
        · refine ⟨_, rfl, _, _, rfl, rfl, by show (0 : Int) < 5; decide, _, _, rfl, rfl, _, rfl, ?_⟩
          refine ite2 (fun c2 => ?_) (fun c2 => ?_)
          · have hne : 0 < xs.length := by
              cases xs with
              | nil => cases c1
              | cons _ _ => simp
            have D2 := D1.same S2
            refine ⟨_, rfl, d, g, c, N + 1, rfl, D2, by omega, fun k2 H3 hk2 hk3 D3 K3 => ?_⟩
            have ha3 := K3.at ha2 (fun m => D2.noTup _ m _ ha2)
            have hs3 := hs2.mono (D2.kind D3 K3)
            have hlx : (0 : Int) < ((xs.length : Nat) : Int) := by omega
            have hr2 := mod_range (k := k2) hlx
            refine ⟨_, rfl, a, _, rfl, .inr (SqT.of ha3), _, _, rfl, rfl, hlx, ?_⟩
            obtain ⟨v, hv, hv2⟩ := atV (xs := xs) hr2.1 hr2.2
            obtain ⟨ev, hev, hve⟩ := hs3.get hv2
            have hevm := List.mem_of_getElem? hev
            have hr4 := hr.mono (show n + 1 ≤ n + 1 from Nat.le_refl _)
            refine ⟨_, rfl, _, rfl, _, rfl, a, _, _, v, rfl, rfl, SqT.of ha3, hv, d, g, c, N + 2, v, ev, b, rfl, D3, by omega, hve, ho.2 ev hevm, hb, fun v4 e4 H4 D4 K4 I4 o4 => ?_⟩
            refine ⟨by show 1 ≤ sizeLine; decide, fun t ht => ?_⟩
            have ha4 := K4.at ha3 (fun m => D3.noTup _ m _ ha3)
            have hs4 := hs3.mono (D3.kind D4 K4)
            have N5 := same_new ht (.tup [v4])
            have D5 := D4.same N5
            have ha5 := N5 _ _ ha4
            have hs5 := hs4.mono (KindS.of_same N5)
            have It : IsXA (upd H4 t (.tup [v4])) [v4] [e4] := .cons (I4.mono (KindS.of_same N5)) .nil
            have ht5 : upd H4 t (.tup [v4]) t = some (.tup [v4]) := upd_same
            have K5 : Keep [d, g, c] H (upd H4 t (.tup [v4])) := (((K1.trans (Keep.of_same S2)).trans K3).trans K4).trans (Keep.of_same N5)
            generalize upd H4 t (.tup [v4]) = H5 at D5 ha5 hs5 It ht5 K5 N5
            refine g_name ?_
            dsimp only
            refine seq_cut (t1 := tIfS _ _ _) (fun σ' H' => ∃ (t : Addr) (ts : List V) (es : List Dx), σ' = [some (.ref d), some (.ref a), some (.int k), some (.int (k2 % ((xs.length : Nat) : Int))), some (.ref t)] ∧ H' t = some (.tup ts) ∧ IsXA H' ts es ∧ es.length ≤ 2 ∧ (∀ y ∈ es, Dx.ok (2 * b + 20) (n + 3) y) ∧ Same H5 H') ?_ ?_
            · rintro σ' H6 ⟨t6, ts, es, rfl, ht6, Its, hel, heo, S6⟩
              have ha6 := S6 _ _ ha5
              have hs6 := hs5.mono (KindS.of_same S6)
              have lts := Its.len
              refine ⟨_, rfl, _, rfl, _, rfl, sl_any ha6 fun u1 H7 S7 hu1 => ?_⟩
              obtain ⟨es1, I1, m1⟩ := (hs6.mono (KindS.of_same S7)).cut none (some (k2 % ((xs.length : Nat) : Int)))
              have l1 := cutV_length xs none (some (k2 % ((xs.length : Nat) : Int)))
              have l1' := I1.len
              generalize cutV xs none (some (k2 % ((xs.length : Nat) : Int))) = ys1 at hu1 I1 l1 l1'
              refine ⟨_, rfl, cat_any hu1 (S7 _ _ ht6) (by omega) fun u2 H8 S8 hu2 => ?_⟩
              have I2 := (I1.mono (KindS.of_same S8)).app (Its.mono (KindS.of_same (S7.trans S8)))
              refine ⟨_, rfl, _, rfl, _, _, rfl, rfl, _, rfl, ?_⟩
              dsimp only [tNoPart]
              refine sl_any (S8 _ _ (S7 _ _ ha6)) fun u3 H9 S9 hu3 => ?_
              obtain ⟨es3, I3, m3⟩ := (hs6.mono (KindS.of_same ((S7.trans S8).trans S9))).cut (some (k2 % ((xs.length : Nat) : Int) + 1)) none
              have l3 := cutV_length xs (some (k2 % ((xs.length : Nat) : Int) + 1)) none
              have l3' := I3.len
              generalize cutV xs (some (k2 % ((xs.length : Nat) : Int) + 1)) none = ys3 at hu3 I3 l3 l3'
              refine cat_any (S9 _ _ hu2) hu3 (by rw [List.length_append]; omega) fun u4 H10 S10 hu4 => ?_
              have I4' := ((I2.mono (KindS.of_same S9)).app I3).mono (KindS.of_same S10)
              have Sx := (((S6.trans S7).trans S8).trans S9).trans S10
              refine q _ (.tup ((es1 ++ es) ++ es3)) H10 ((D5.same Sx).le (by omega)) (K5.trans (Keep.of_same Sx)) (.tup hu4 I4') ⟨?_, fun y hy => ?_⟩
              · rw [List.length_append, List.length_append]; omega
              · rcases List.mem_append.mp hy with hy | hy
                · rcases List.mem_append.mp hy with hy | hy
                  · exact Dx.ok_mono (by omega) (by omega) (ho.2 y (m1 y hy))
                  · exact heo y hy
                · exact Dx.ok_mono (by omega) (by omega) (ho.2 y (m3 y hy))
            · intro nxt2
              refine ⟨_, rfl, _, _, rfl, rfl, ⟨by decide, by decide⟩, _, _, rfl, rfl, by show (0 : Int) < 6; decide, rfl, _, rfl, ?_⟩
              refine ite2 (fun c3 => ?_) (fun c3 => ?_)
              · have hv5 : IsX H5 v ev := hve.mono ((D3.kind D4 K4).trans (KindS.of_same N5))
                have hoe : Dx.ok (2 * b + 20) (n + 3) ev := Dx.ok_mono (by omega) (by omega) (ho.2 ev hevm)
                refine ⟨by show 0 ≤ sizeLine; decide, fun p1 hp1 => ?_⟩
                have M1 := same_new hp1 (.tup [])
                have h1 : upd H5 p1 (.tup []) p1 = some (.tup []) := upd_same
                have ha6 := M1 _ _ ha5
                have hv6 := hv5.mono (KindS.of_same M1)
                have hs6 := hs5.mono (KindS.of_same M1)
                generalize upd H5 p1 (.tup []) = H6 at M1 h1 ha6 hv6 hs6
                refine ⟨_, rfl, _, rfl, a, _, _, v, rfl, rfl, SqT.of ha6, hv, _, rfl, _, rfl, a, _, _, v, rfl, rfl, SqT.of ha6, hv, by show 2 ≤ sizeLine; decide, fun p2 hp2 => ?_⟩
                have M2' := same_new hp2 (.tup [v, v])
                have M2 := M1.trans M2'
                have h2 : upd H6 p2 (.tup [v, v]) p2 = some (.tup [v, v]) := upd_same
                have h1' := M2' _ _ h1
                have ha7 := M2' _ _ ha6
                have hv7 := hv6.mono (KindS.of_same M2')
                have hs7 := hs6.mono (KindS.of_same M2')
                generalize upd H6 p2 (.tup [v, v]) = H7 at M2 h2 h1' ha7 hv7 hs7
                have hr5 := mod_range (k := k / 30) hlx
                obtain ⟨y, hy, hy2⟩ := atV (xs := xs) hr5.1 hr5.2
                obtain ⟨ey, hey, hye⟩ := hs7.get hy2
                have hyo : Dx.ok (2 * b + 20) (n + 3) ey := Dx.ok_mono (by omega) (by omega) (ho.2 ey (List.mem_of_getElem? hey))
                refine ⟨_, rfl, _, rfl, _, _, rfl, rfl, ⟨by decide, by decide⟩, _, rfl, a, _, rfl, .inr (SqT.of ha7), _, _, rfl, rfl, hlx, a, _, _, y, rfl, rfl, SqT.of ha7, hy, by show 1 ≤ sizeLine; decide, fun p3 hp3 => ?_⟩
                have M3' := same_new hp3 (.tup [y])
                have M3 := M2.trans M3'
                have h3 : upd H7 p3 (.tup [y]) p3 = some (.tup [y]) := upd_same
                have h1'' := M3' _ _ h1'
                have h2'' := M3' _ _ h2
                have hv8 := hv7.mono (KindS.of_same M3')
                have hy8 := hye.mono (KindS.of_same M3')
                generalize upd H7 p3 (.tup [y]) = H8 at M3 h3 h1'' h2'' hv8 hy8
                refine ⟨by show 3 ≤ sizeLine; decide, fun p4 hp4 => ?_⟩
                have M4' := same_new hp4 (.lst [.ref p1, .ref p2, .ref p3])
                have M4 := M3.trans M4'
                have h4 : upd H8 p4 (.lst [.ref p1, .ref p2, .ref p3]) p4 = some (.lst [.ref p1, .ref p2, .ref p3]) := upd_same
                have g1 := M4' _ _ h1''
                have g2 := M4' _ _ h2''
                have g3 := M4' _ _ h3
                have hv9 := hv8.mono (KindS.of_same M4')
                have hy9 := hy8.mono (KindS.of_same M4')
                generalize upd H8 p4 (.lst [.ref p1, .ref p2, .ref p3]) = H9 at M4 h4 g1 g2 g3 hv9 hy9
                have hr6 := mod_range (k := k / 900) (m := 3) (by decide)
                obtain ⟨r, hr7, hr8⟩ := atV (xs := [.ref p1, .ref p2, .ref p3]) hr6.1 hr6.2
                refine ⟨_, rfl, _, _, rfl, rfl, ⟨by decide, by decide⟩, _, _, rfl, rfl, by show (0 : Int) < 3; decide, p4, _, _, r, rfl, rfl, SqL.of h4, hr7, ?_⟩
                have hm := List.mem_of_getElem? hr8
                simp only [List.mem_cons, List.not_mem_nil, or_false] at hm
                rcases hm with rfl | rfl | rfl
                · exact nxt2 _ _ ⟨p1, [], [], rfl, g1, .nil, by simp, fun y hy => (by cases hy), M4⟩
                · exact nxt2 _ _ ⟨p2, [v, v], [ev, ev], rfl, g2, .cons hv9 (.cons hv9 .nil), by simp, fun y hy => by
                    simp only [List.mem_cons, List.not_mem_nil, or_false] at hy
                    rcases hy with rfl | rfl <;> exact hoe, M4⟩
                · exact nxt2 _ _ ⟨p3, [y], [ey], rfl, g3, .cons hy9 .nil, by simp, fun z hz => by rw [List.mem_singleton.mp hz]; exact hyo, M4⟩
              · exact nxt2 _ _ ⟨t, _, _, rfl, ht5, It, by simp, fun y hy => by rw [List.mem_singleton.mp hy]; exact o4, Same.refl _⟩
          · exact nxt _ _ ⟨rfl, S2⟩
        · exact nxt _ _ ⟨rfl, S2⟩
end
end Nf


set_option Elab.async false
set_option linter.all false
set_option maxRecDepth 100000
namespace Nf
open PySem L2
section
variable {P : Program} {w : World} {K : PySem.W.Frag} {mg : Str → Option Value} {base : Heap} {f fn a1 a2 a3 a4 a5 a6 a7 : Addr} {fd fnd d1 d2 d3 d4 d5 d6 d7 : FuncData}
/-! ### the heads drawn -/
abbrev s_heads : Stmt := top 31
abbrev N_heads : List Str := ["_law_number", "_law_some"]
abbrev P_heads : List Str := ["_law_number"]
theorem sc_heads : FnScope N_heads P_heads (defScope s_heads) := ⟨rfl, rfl, rfl, by decide +kernel, rfl, by decide +kernel, by decide +kernel⟩
def spHeads : Sp := fun vs H Q _ => ∃ k : Int, vs = [.int k] ∧ 0 ≤ k ∧ ∀ (a : Addr) (hs : List Str) H', Same H H' → H a = none → H' a = some (.lst (hs.map V.str)) → 0 < hs.length → (∀ x ∈ hs, x ∈ heads6) → Q (.ref a) H'
theorem ok_heads (T : Bt mg) (C_heads : Cal K mg "_law_heads" s_heads P_heads f fd) : FnOk P w K mg base CX0 1 f fd P_heads spHeads := by
  refine C_heads.F.ok sc_heads (fun vs H Q E h => ?_) (fun cdv A outer s H vs Q E hr h => ?_)
  · obtain ⟨k, rfl, _⟩ := h
    rfl
  obtain ⟨k, rfl, hk, q⟩ := h
  refine ⟨_, PSs.nox (pss_cons (ps_set (i := 1) sc_heads.nd rfl (Or.inl rfl) (pe_lst (pa_cons (pe_lst (pa_cons pe_str (pa_cons pe_str (pa_cons pe_str (pa_cons pe_str (pa_cons pe_str (pa_cons pe_str pa_nil))))))) (pa_cons (pe_lst (pa_cons pe_str (pa_cons pe_str pa_nil))) (pa_cons (pe_lst (pa_cons pe_str pa_nil)) (pa_cons (pe_lst (pa_cons pe_str (pa_cons pe_str (pa_cons pe_str pa_nil)))) pa_nil))))))
    (pss_one (ps_ret (pe_ix ix_list (pv 1) (pe_op op_mod (pv 0) pe_int) (fun _ _ => rfl))))), ?_⟩
  refine ⟨by show 6 ≤ sizeLine; decide, fun p1 hp1 => ?_⟩
  have S1 := same_new hp1 (.lst (heads6.map V.str))
  have e1 : upd H p1 (.lst (heads6.map V.str)) p1 = some (.lst (heads6.map V.str)) := upd_same
  refine ⟨by show 2 ≤ sizeLine; decide, fun p2 hp2 => ?_⟩
  have S2 := S1.new hp2 (o := .lst ((["name", "made"] : List Str).map V.str))
  refine ⟨by show 1 ≤ sizeLine; decide, fun p3 hp3 => ?_⟩
  have S3 := S2.new hp3 (o := .lst ((["made"] : List Str).map V.str))
  refine ⟨by show 3 ≤ sizeLine; decide, fun p4 hp4 => ?_⟩
  have S4 := S3.new hp4 (o := .lst ((["name", "made", "skip"] : List Str).map V.str))
  have g4 : (upd (upd (upd (upd H p1 (.lst (heads6.map V.str))) p2 (.lst ((["name", "made"] : List Str).map V.str))) p3 (.lst ((["made"] : List Str).map V.str))) p4 (.lst ((["name", "made", "skip"] : List Str).map V.str))) p4 = some (.lst ((["name", "made", "skip"] : List Str).map V.str)) := upd_same
  have g3 : (upd (upd (upd (upd H p1 (.lst (heads6.map V.str))) p2 (.lst ((["name", "made"] : List Str).map V.str))) p3 (.lst ((["made"] : List Str).map V.str))) p4 (.lst ((["name", "made", "skip"] : List Str).map V.str))) p3 = some (.lst ((["made"] : List Str).map V.str)) := (same_new hp4 _) _ _ upd_same
  have g2 : (upd (upd (upd (upd H p1 (.lst (heads6.map V.str))) p2 (.lst ((["name", "made"] : List Str).map V.str))) p3 (.lst ((["made"] : List Str).map V.str))) p4 (.lst ((["name", "made", "skip"] : List Str).map V.str))) p2 = some (.lst ((["name", "made"] : List Str).map V.str)) := ((same_new hp3 _).trans (same_new hp4 _)) _ _ upd_same
  have g1 : (upd (upd (upd (upd H p1 (.lst (heads6.map V.str))) p2 (.lst ((["name", "made"] : List Str).map V.str))) p3 (.lst ((["made"] : List Str).map V.str))) p4 (.lst ((["name", "made", "skip"] : List Str).map V.str))) p1 = some (.lst (heads6.map V.str)) := (((same_new hp2 _).trans (same_new hp3 _)).trans (same_new hp4 _)) _ _ upd_same
  have n2 := S1.free hp2
  have n3 := S2.free hp3
  have n4 := S3.free hp4
  refine ⟨by show 4 ≤ sizeLine; decide, fun p5 hp5 => ?_⟩
  have S5' := same_new hp5 (.lst [.ref p1, .ref p2, .ref p3, .ref p4])
  have S5 := S4.trans S5'
  have hr1 := mod_range (k := k) (m := 4) (by decide)
  obtain ⟨v, hv, hv2⟩ := atV (xs := [.ref p1, .ref p2, .ref p3, .ref p4]) hr1.1 hr1.2
  refine ⟨_, rfl, _, rfl, _, _, rfl, rfl, by show (0 : Int) < 4; decide, p5, _, _, v, rfl, rfl, SqL.of upd_same, hv, ?_⟩
  have hm := List.mem_of_getElem? hv2
  simp only [List.mem_cons, List.not_mem_nil, or_false] at hm
  rcases hm with rfl | rfl | rfl | rfl
  · exact q p1 heads6 _ S5 hp1 (S5' _ _ g1) (by decide) (fun x hx => hx)
  · exact q p2 ["name", "made"] _ S5 n2 (S5' _ _ g2) (by decide) (by decide +kernel)
  · exact q p3 ["made"] _ S5 n3 (S5' _ _ g3) (by decide) (by decide +kernel)
  · exact q p4 ["name", "made", "skip"] _ S5 n4 (S5' _ _ g4) (by decide) (by decide +kernel)
/-! ### a truth that is due -/
abbrev s_says : Stmt := top 32
abbrev N_says : List Str := ["_law_found", "_law_due"]
abbrev P_says : List Str := ["_law_found", "_law_due"]
theorem sc_says : FnScope N_says P_says (defScope s_says) := ⟨rfl, rfl, rfl, by decide +kernel, rfl, by decide +kernel, by decide +kernel⟩
def spSays : Sp := fun vs H Q _ => ∃ b : Bool, vs = [.bl b, .bl b] ∧ Q (.bl true) H
theorem ok_says (T : Bt mg) (C_says : Cal K mg "_law_says" s_says P_says f fd) : FnOk P w K mg base CX0 1 f fd P_says spSays := by
  refine C_says.F.ok sc_says (fun vs H Q E h => ?_) (fun cdv A outer s H vs Q E hr h => ?_)
  · obtain ⟨b, rfl, _⟩ := h
    rfl
  obtain ⟨b, rfl, q⟩ := h
  refine ⟨_, PSs.nox (pss_one (ps_ret (pe_and (pe_callB call_isi (by rfl) T.t_isinstance (by decide +kernel) (pa_cons (pv 0) (pa_cons (pe_bltn (v := .ty "bool") (by rfl) T.t_bool (by decide +kernel) rfl) pa_nil))) (pe_one (pe_cmpR op_eq (pv 0) (pv 1) (nomark _)))))), ?_⟩
  refine ⟨_, rfl, _, _, _, _, true, rfl, .ty _, .base (.bl b), kit_ty (by decide +kernel), _, rfl, iteT ?_⟩
  refine ⟨_, rfl, _, rfl, rfl, ?_⟩
  have : decide (V.bl b = V.bl b) = true := decide_eq_true rfl
  rw [← this] at q
  exact q
/-! ### one of them -/
abbrev s_right : Stmt := top 33
abbrev N_right : List Str := ["_law_thing", "_law_every"]
abbrev P_right : List Str := ["_law_thing"]
theorem sc_right : FnScope N_right P_right (defScope s_right) := ⟨rfl, rfl, rfl, by decide +kernel, rfl, by decide +kernel, by decide +kernel⟩
def spRight : Sp := fun vs H Q _ => ∃ (x : V) (d : Dx) (b n : Nat), vs = [x] ∧ IsX H x d ∧ Dx.ok b n d ∧ n = 22 ∧ b ≤ 1000 ∧ ∀ H', Same H H' → Q (.bl true) H'
theorem ok_right (T : Bt mg) (C_right : Cal K mg "_law_right" s_right P_right f fd)
    (C_says : Cal K mg "_law_says" s_says P_says a1 d1) (G_says : FnOk P w K mg base CX0 1 a1 d1 P_says spSays)
    (C_is_saying : Cal K mg "is_saying" s_is_saying P_is_saying a2 d2) (G_is_saying : FnOk P w K mg base CX0 5 a2 d2 P_is_saying (spSay heads6))
    (C_is_thing : Cal K mg "is_thing" s_is_thing P_is_thing a3 d3) (G_is_thing : FnOk P w K mg base CX0 5 a3 d3 P_is_thing (spSay ["name", "made"]))
    (C_is_plain : Cal K mg "is_plain" s_is_plain P_is_plain a4 d4) (G_is_plain : FnOk P w K mg base CX0 5 a4 d4 P_is_plain (spSay ["made"]))
    (C_is_word : Cal K mg "is_word" s_is_word P_is_word a5 d5) (G_is_word : FnOk P w K mg base CX0 2 a5 d5 P_is_word (spWord (K := K)))
    (C_is : Cal K mg "_law_is" s_is P_is a6 d6) (G_is : FnOk P w K mg base CX0 23 a6 d6 P_is (spIs 22))
    (C_l_is_word : Cal K mg "_law_is_word" s_l_is_word P_l_is_word a7 d7) (G_l_is_word : FnOk P w K mg base CX0 1 a7 d7 P_l_is_word (spWord (K := K))) : FnOk P w K mg base CX0 24 f fd P_right spRight := by
  refine C_right.F.ok sc_right (fun vs H Q E h => ?_) (fun cdv A outer s H vs Q E hr h => ?_)
  · obtain ⟨x, d, b, n, rfl, _⟩ := h
    rfl
  obtain ⟨x, d, b, n, rfl, hx, ho, rfl, hb, q⟩ := h
  refine ⟨_, PSs.nox (pss_cons (ps_set (i := 1) sc_right.nd rfl (Or.inl rfl) (pe_lst (pa_cons pe_str (pa_cons pe_str (pa_cons pe_str (pa_cons pe_str (pa_cons pe_str (pa_cons pe_str pa_nil))))))))
    (pss_cons (ps_if (pt_not (pt_val (pe_call G_says (hr.mono (by omega)) (by rfl) C_says.m C_says.F.kp C_says.b .nil pass0 (pa_cons (pe_call G_is_saying (hr.mono (by omega)) (by rfl) C_is_saying.m C_is_saying.F.kp C_is_saying.b .nil pass0 (pa_cons (pv 0) pa_nil)) (pa_cons (pe_call G_is (hr.mono (by omega)) (by rfl) C_is.m C_is.F.kp C_is.b .nil pass0 (pa_cons (pv 0) (pa_cons (pv 1) pa_nil))) pa_nil))))) (pss_one (ps_ret pe_bl)) pss_nil)
    (pss_cons (ps_if (pt_not (pt_val (pe_call G_says (hr.mono (by omega)) (by rfl) C_says.m C_says.F.kp C_says.b .nil pass0 (pa_cons (pe_call G_is_thing (hr.mono (by omega)) (by rfl) C_is_thing.m C_is_thing.F.kp C_is_thing.b .nil pass0 (pa_cons (pv 0) pa_nil)) (pa_cons (pe_call G_is (hr.mono (by omega)) (by rfl) C_is.m C_is.F.kp C_is.b .nil pass0 (pa_cons (pv 0) (pa_cons (pe_lst (pa_cons pe_str (pa_cons pe_str pa_nil))) pa_nil))) pa_nil))))) (pss_one (ps_ret pe_bl)) pss_nil)
    (pss_one (ps_ret (pe_and (pe_call G_says (hr.mono (by omega)) (by rfl) C_says.m C_says.F.kp C_says.b .nil pass0 (pa_cons (pe_call G_is_plain (hr.mono (by omega)) (by rfl) C_is_plain.m C_is_plain.F.kp C_is_plain.b .nil pass0 (pa_cons (pv 0) pa_nil)) (pa_cons (pe_call G_is (hr.mono (by omega)) (by rfl) C_is.m C_is.F.kp C_is.b .nil pass0 (pa_cons (pv 0) (pa_cons (pe_lst (pa_cons pe_str pa_nil)) pa_nil))) pa_nil))) (pe_one (pe_call G_says (hr.mono (by omega)) (by rfl) C_says.m C_says.F.kp C_says.b .nil pass0 (pa_cons (pe_call G_is_word (hr.mono (by omega)) (by rfl) C_is_word.m C_is_word.F.kp C_is_word.b .nil pass0 (pa_cons (pv 0) pa_nil)) (pa_cons (pe_call G_l_is_word (hr.mono (by omega)) (by rfl) C_l_is_word.m C_l_is_word.F.kp C_l_is_word.b .nil pass0 (pa_cons (pv 0) pa_nil)) pa_nil)))))))))), ?_⟩
  refine ⟨by show 6 ≤ sizeLine; decide, fun p1 hp1 => ?_⟩
  have S1 := same_new hp1 (.lst (heads6.map V.str))
  have e1 : upd H p1 (.lst (heads6.map V.str)) p1 = some (.lst (heads6.map V.str)) := upd_same
  have hx1 := hx.mono (KindS.of_same S1)
  refine ⟨_, rfl, x, d, b, 22, rfl, hx1, ho, by decide, fun H2 S2 => ?_⟩
  have S2' := S1.trans S2
  have e2 := S2 _ _ e1
  refine ⟨_, rfl, _, rfl, x, d, p1, heads6, b, rfl, hx.mono (KindS.of_same S2'), e2, fun z hz => hz, ho, hb, fun H3 S3 => ⟨_, rfl, _, rfl, iteF ?_⟩⟩
  have S3' := S2'.trans S3
  refine ⟨_, rfl, x, d, b, 22, rfl, hx.mono (KindS.of_same S3'), ho, by decide, fun H4 S4 => ?_⟩
  have S4' := S3'.trans S4
  refine ⟨_, rfl, by show 2 ≤ sizeLine; decide, fun p2 hp2 => ?_⟩
  have S5' := S4'.new hp2 (o := .lst ((["name", "made"] : List Str).map V.str))
  refine ⟨x, d, p2, ["name", "made"], b, rfl, hx.mono (KindS.of_same S5'), upd_same, by decide +kernel, ho, hb, fun H6 S6 => ⟨_, rfl, _, rfl, iteF ?_⟩⟩
  have S6' := S5'.trans S6
  refine ⟨_, rfl, x, d, b, 22, rfl, hx.mono (KindS.of_same S6'), ho, by decide, fun H7 S7 => ?_⟩
  have S7' := S6'.trans S7
  refine ⟨_, rfl, by show 1 ≤ sizeLine; decide, fun p3 hp3 => ?_⟩
  have S8' := S7'.new hp3 (o := .lst ((["made"] : List Str).map V.str))
  refine ⟨x, d, p3, ["made"], b, rfl, hx.mono (KindS.of_same S8'), upd_same, by decide +kernel, ho, hb, fun H9 S9 => ⟨_, rfl, _, rfl, iteT ?_⟩⟩
  have S9' := S8'.trans S9
  refine ⟨_, rfl, x, rfl, (hx.mono (KindS.of_same S9')).any, fun H10 S10 => ?_⟩
  have S10' := S9'.trans S10
  exact ⟨_, rfl, x, rfl, (hx.mono (KindS.of_same S10')).any, fun H11 S11 => ⟨_, rfl, q _ (S10'.trans S11)⟩⟩
/-! ### the law -/
def spBentA : Sp := fun vs H Q E => ∃ n, n ≤ 19 ∧ spBent n vs H Q E
theorem ok_bentA (G : ∀ n : Nat, FnOk P w K mg base CX0 (n + 1) f fd P_bent (spBent n)) : FnOk P w K mg base CX0 20 f fd P_bent spBentA :=
  ⟨fun vs H Q E ⟨n, _, h⟩ => (G n).len vs H Q E h, fun A outer s H args us vs Q E r e b v ⟨n, hn, h⟩ => (G n).run A outer s H args us vs Q E (r.mono (by omega)) e b v h⟩
def wd12 : List Str := ["kind", "def", "either", "same", "truth", "skip", "name", "yes", "a", "abcdefgh", "abcdefghi", ""]
theorem isXA_words {H : Hp} : ∀ ws : List Str, (∀ x ∈ ws, x.length ≤ 1000) → IsXA H (ws.map V.str) (ws.map Dx.str)
  | [], _ => .nil
  | x :: r, h => .cons (.str x (h x (by simp))) (isXA_words r fun y hy => h y (by simp [hy]))
theorem wd12_len : ∀ x ∈ wd12, x.length ≤ 16 := by decide +kernel
abbrev s_law : Stmt := top 34
abbrev N_law : List Str := ["_law_script", "_law_deck_here", "_law_some", "_law_turn", "_law_number", "_law_thing", "_law_twice"]
abbrev P_law : List Str := ["_law_script"]
theorem sc_law : FnScope N_law P_law (defScope s_law) := ⟨rfl, rfl, rfl, by decide +kernel, rfl, by decide +kernel, by decide +kernel⟩
def spLaw (K : PySem.W.Frag) : Sp := fun vs H Q _ => ∃ (a : Addr) (ns : List Int), vs = [.ref a] ∧ SqL K H a (ns.map V.int) ∧ ns.length ≤ 63 ∧ ∀ H', Q (.bl true) H'
theorem ok_law (T : Bt mg) (C_law : Cal K mg "law" s_law P_law f fd) (C_next : Cal K mg "_law_next" s_next P_next fn fnd) (G_next : FnOk P w K mg base CX0 1 fn fnd P_next spNext)
    (C_deck : Cal K mg "_law_deck" s_deck P_deck a1 d1) (G_deck : FnOk P w K mg base CX0 1 a1 d1 P_deck (spDeck K))
    (C_any : Cal K mg "_law_any" s_any P_any a2 d2) (G_any : FnOk P w K mg base CX0 8 a2 d2 P_any (spAny 5))
    (C_heads : Cal K mg "_law_heads" s_heads P_heads a3 d3) (G_heads : FnOk P w K mg base CX0 1 a3 d3 P_heads spHeads)
    (C_bent : Cal K mg "_law_bent" s_bent P_bent a4 d4) (G_bent : FnOk P w K mg base CX0 20 a4 d4 P_bent spBentA)
    (C_name : Cal K mg "_law_name" s_name P_name a5 d5) (G_name : FnOk P w K mg base CX0 3 a5 d5 P_name spName)
    (C_letters : Cal K mg "_law_letters" s_letters P_letters a6 d6) (G_letters : FnOk P w K mg base CX0 2 a6 d6 P_letters spLetters)
    (C_right : Cal K mg "_law_right" s_right P_right a7 d7) (G_right : FnOk P w K mg base CX0 24 a7 d7 P_right spRight) : FnOk P w K mg base CX0 25 f fd P_law (spLaw K) := by
  refine C_law.F.ok sc_law (fun vs H Q E h => ?_) (fun cdv A outer s H vs Q E hr h => ?_)
  · obtain ⟨a, ns, rfl, _⟩ := h
    rfl
  obtain ⟨a, ns, rfl, hS, h63, q⟩ := h
  refine ⟨_, PSs.nox (pss_cons (ps_set (i := 1) sc_law.nd rfl (Or.inl rfl) (pe_call G_deck (hr.mono (by omega)) (by rfl) C_deck.m C_deck.F.kp C_deck.b .nil pass0 (pa_cons (pv 0) pa_nil)))
    (pss_cons (ps_set (i := 2) sc_law.nd rfl (Or.inl rfl) (pe_lst pa_nil))
    (pss_cons (ps_for PassesOwn.never (by rfl) (pi_range1 (by rfl) T.t_range (pa_cons pe_int pa_nil)) (pg_name (i := 3) sc_law.nd rfl (Or.inl rfl)) (pss_cons (ps_set (i := 4) sc_law.nd rfl (Or.inl rfl) (pe_call G_next (hr.mono (by omega)) (by rfl) C_next.m C_next.F.kp C_next.b .nil pass0 (pa_cons (pv 1) pa_nil)))
    (pss_cons (ps_set (i := 5) sc_law.nd rfl (Or.inl rfl) (pe_call G_any (hr.mono (by omega)) (by rfl) C_any.m C_any.F.kp C_any.b .nil pass0 (pa_cons (pv 1) (pa_cons (pe_call G_heads (hr.mono (by omega)) (by rfl) C_heads.m C_heads.F.kp C_heads.b .nil pass0 (pa_cons (pv 4) pa_nil)) (pa_cons (pe_op op_add pe_int (pe_op op_mod (pe_op op_fdiv (pv 4) pe_int) pe_int)) pa_nil)))))
    (pss_cons (ps_set (i := 6) sc_law.nd rfl (Or.inl rfl) (pe_call G_bent (hr.mono (by omega)) (by rfl) C_bent.m C_bent.F.kp C_bent.b .nil pass0 (pa_cons (pv 1) (pa_cons (pv 5) pa_nil))))
    (pss_one (ps_set (i := 2) sc_law.nd rfl (Or.inl rfl) (pe_op op_cat (pv 2) (pe_lst (pa_cons (pv 5) (pa_cons (pv 6) (pa_cons (pe_call G_bent (hr.mono (by omega)) (by rfl) C_bent.m C_bent.F.kp C_bent.b .nil pass0 (pa_cons (pv 1) (pa_cons (pv 6) pa_nil))) (pa_cons (pe_call G_name (hr.mono (by omega)) (by rfl) C_name.m C_name.F.kp C_name.b .nil pass0 (pa_cons (pv 1) pa_nil)) (pa_cons (pe_call G_bent (hr.mono (by omega)) (by rfl) C_bent.m C_bent.F.kp C_bent.b .nil pass0 (pa_cons (pv 1) (pa_cons (pe_call G_letters (hr.mono (by omega)) (by rfl) C_letters.m C_letters.F.kp C_letters.b .nil pass0 (pa_cons (pv 1) (pa_cons pe_int pa_nil))) pa_nil))) pa_nil)))))))))))))
    (pss_cons (ps_set (i := 2) sc_law.nd rfl (Or.inl rfl) (pe_op op_cat (pv 2) (pe_lst (pa_cons pe_str (pa_cons pe_str (pa_cons pe_str (pa_cons pe_str (pa_cons pe_str (pa_cons pe_str (pa_cons pe_str (pa_cons pe_str (pa_cons pe_str (pa_cons pe_str (pa_cons pe_str (pa_cons pe_str pa_nil)))))))))))))))
    (pss_one (ps_ret (pe_callB (cr_all rfl) (by rfl) T.t_all (by decide +kernel) (pa_cons (pe_lc (own := [("_law_thing", 5)]) (g := gName 5) (tt := tYes) (by rfl) sc_law.nd (pi_list (pe_op op_cat (pv 2) (pe_slice sl_list (pv 2) po_none (po_some pe_int)))) (blkOk_by (own := [("_law_thing", 5)]) (N := N_law) (sc := defScope s_law) (by decide +kernel)) (fun _ _ _ _ _ => (pg_name (i := 5) sc_law.nd rfl (Or.inl rfl))) (fun _ _ _ _ _ => pts_nil) (fun _ _ _ _ _ => (pe_call G_right (hr.mono (by omega)) (by rfl) C_right.m C_right.F.kp C_right.b .nil pass0 (pa_cons (pv 5) pa_nil)))) pa_nil)))))))), ?_⟩
  refine ⟨_, rfl, a, ns, rfl, hS, h63, fun d g c H1 D1 S1 hd hg hc => ?_⟩
  refine ⟨by show 0 ≤ sizeLine; decide, fun l hl => ?_⟩
  have D2 := D1.new hl (o := .lst [])
  have hlD := D1.not_new hl
  have e2 : upd H1 l (.lst []) l = some (.lst []) := upd_same
  generalize upd H1 l (.lst []) = H2 at D2 e2
  have c5 : cost 5 = 20480 := rfl
  refine ⟨12, rfl, by decide, by decide, ?_⟩
  refine for_range (lo := 0) (n := 12) (fun i σ H' => ∃ (l : Addr) (us : List V) (es : List Dx) (y3 y4 y5 y6 : Option V), σ = [some (.ref a), some (.ref d), some (.ref l), y3, y4, y5, y6] ∧ Deck H' d g c (i * 21000) ∧
    H' l = some (.lst us) ∧ l ∉ [d, g, c] ∧ IsXA H' us es ∧ es.length = 5 * i ∧ ∀ e ∈ es, Dx.ok 92 22 e) ?_ ?_ ?_
  · exact ⟨l, [], [], none, none, none, none, rfl, by simpa using D2, e2, hlD, .nil, rfl, by simp⟩
  · rintro i σ H4 hi ⟨l, us, es, y3, y4, y5, y6, rfl, D4, hl4, hlD, IA, hil, hok⟩
    have hi5' : i * 21000 ≤ 12 * 21000 := Nat.mul_le_mul_right _ (by omega)
    refine ⟨_, rfl, d, g, c, _, rfl, D4, by omega, fun k H5 hk0 hk1 D5 K5 => ?_⟩
    refine ⟨_, rfl, _, rfl, k, rfl, hk0, fun ah hs H6 S6 hah hah6 hs0 hs6 => ?_⟩
    have D6 := D5.same S6
    have nah : ah ∉ [d, g, c] := D5.not_new hah
    have hr5 := mod_range (k := k / 4) (m := 5) (by decide)
    refine ⟨_, rfl, _, _, rfl, rfl, ⟨by decide, by decide⟩, _, _, rfl, rfl, by show (0 : Int) < 5; decide, _, _, rfl, rfl, d, g, c, ah, _, hs, 1 + k / 4 % 5, rfl, D6, hah6, nah, hs0, hs6, by omega, by omega, by omega, fun v7 e7 H7 D7 K7 I7 o7 => ?_⟩
    have o7' : Dx.ok 8 13 e7 := o7
    have hl7 : H7 l = some (.lst us) := K7.at (S6 _ _ (K5.at hl4 hlD)) hlD
    have IA7 : IsXA H7 us es := ((IA.mono (D4.kind D5 K5)).mono (KindS.of_same S6)).mono (D6.kind D7 K7)
    refine ⟨_, rfl, _, rfl, 13, by decide, d, g, c, _, v7, e7, 8, rfl, D7, by omega, I7, o7', by decide, fun v8 e8 H8 D8 K8 I8 o8 => ?_⟩
    have hl8 := K8.at hl7 hlD
    have IA8 := (IA7.mono (D7.kind D8 K8))
    have I7' := I7.mono (D7.kind D8 K8)
    refine ⟨_, rfl, _, rfl, _, rfl, _, rfl, _, rfl, 16, by decide, d, g, c, _, v8, e8, 36, rfl, D8, by omega, I8, o8, by decide, fun v9 e9 H9 D9 K9 I9 o9 => ?_⟩
    have hl9 := K9.at hl8 hlD
    have IA9 := IA8.mono (D8.kind D9 K9)
    have J9 : IsXA H9 [v7, v8, v9] [e7, e8, e9] := .cons (I7'.mono (D8.kind D9 K9)) (.cons (I8.mono (D8.kind D9 K9)) (.cons I9 .nil))
    refine ⟨_, rfl, d, g, c, _, rfl, D9, by omega, fun x10 H10 hx10 D10 K10 => ?_⟩
    have hl10 := K10.at hl9 hlD
    have IA10 := IA9.mono (D9.kind D10 K10)
    have J10 := (J9.mono (D9.kind D10 K10)).app (.cons (.str x10 (by omega) : IsX H10 (.str x10) (.str x10)) .nil)
    refine ⟨_, rfl, _, rfl, d, g, c, _, 8, rfl, D10, by decide, by decide, by omega, fun x11 H11 hx11 D11 K11 => ?_⟩
    have hl11 := K11.at hl10 hlD
    have IA11 := IA10.mono (D10.kind D11 K11)
    have J11 := J10.mono (D10.kind D11 K11)
    refine ⟨1, by decide, d, g, c, _, .str x11, .str x11, 8, rfl, D11, by omega, .str x11 (by omega), hx11, by decide, fun v12 e12 H12 D12 K12 I12 o12 => ?_⟩
    have hl12 := K12.at hl11 hlD
    have IA12 := IA11.mono (D11.kind D12 K12)
    have J12 := (J11.mono (D11.kind D12 K12)).app (.cons I12 .nil)
    refine ⟨by show 5 ≤ sizeLine; decide, fun l2 hl2 => ?_⟩
    have D13 := D12.new hl2 (o := .lst [v7, v8, v9, .str x10, v12])
    have N13 := same_new hl2 (.lst [v7, v8, v9, .str x10, v12])
    have hl13 := N13 _ _ hl12
    have IA13 := IA12.mono (KindS.of_same N13)
    have J13 := J12.mono (KindS.of_same N13)
    have hl2' : upd H12 l2 (.lst [v7, v8, v9, .str x10, v12]) l2 = some (.lst [v7, v8, v9, .str x10, v12]) := upd_same
    generalize upd H12 l2 (.lst [v7, v8, v9, .str x10, v12]) = H13 at D13 N13 hl13 IA13 J13 hl2'
    have lus := IA13.len
    refine ⟨l, l2, us, _, rfl, rfl, hl13, hl2', sz5 (by simp only [List.length_cons, List.length_nil]; omega), fun l3 hl3 => ?_⟩
    have N14 := same_new hl3 (.lst (us ++ [v7, v8, v9, .str x10, v12]))
    refine ⟨l3, _, es ++ [e7, e8, e9, .str x10, e12], _, _, _, _, rfl, (D13.new hl3).le ?_, upd_same, D13.not_new hl3, (IA13.app J13).mono (KindS.of_same N14), ?_, ?_⟩
    · omega
    · rw [List.length_append, hil]; simp only [List.length_cons, List.length_nil]; omega
    · intro e he
      rcases List.mem_append.mp he with he | he
      · exact hok e he
      · simp only [List.mem_cons, List.not_mem_nil, or_false] at he
        rcases he with rfl | rfl | rfl | rfl | rfl
        · exact Dx.ok_mono (by decide) (by decide) o7'
        · exact Dx.ok_mono (by decide) (by decide) o8
        · exact Dx.ok_mono (by decide) (by decide) o9
        · exact (show x10.length ≤ 92 by omega)
        · exact Dx.ok_mono (by decide) (by decide) o12
  · rintro σ H4 ⟨l, us, es, y3, y4, y5, y6, rfl, D4, hl4, hlD, IA, hil, hok⟩
    have lus := IA.len
    refine ⟨_, rfl, by show 12 ≤ sizeLine; decide, fun l1 hl1 => ?_⟩
    have key : ∃ H5, IsXA H5 (wd12.map V.str) (wd12.map Dx.str) ∧ H5 l1 = some (.lst (wd12.map V.str)) ∧ IsXA H5 us es ∧ H5 l = some (.lst us) ∧ upd H4 l1 (.lst [.str "kind", .str "def", .str "either", .str "same", .str "truth", .str "skip", .str "name", .str "yes", .str "a", .str "abcdefgh", .str "abcdefghi", .str ""]) = H5 :=
      ⟨_, isXA_words wd12 fun x hx => Nat.le_trans (wd12_len x hx) (by decide), upd_same, IA.mono (KindS.of_same (same_new hl1 _)), (same_new hl1 _) _ _ hl4, rfl⟩
    obtain ⟨H5, IW, hw5, IA5, hl5, e5⟩ := key
    refine e5.symm ▸ ?_
    clear e5
    refine ⟨l, l1, us, wd12.map V.str, rfl, rfl, hl5, hw5, sz5 (by rw [List.length_map, show wd12.length = 12 from rfl]; omega), fun l2 hl2 => ?_⟩
    have IA6 := (IA5.app IW).mono (KindS.of_same (same_new hl2 (.lst (us ++ wd12.map V.str))))
    have hl6 : upd H5 l2 (.lst (us ++ wd12.map V.str)) l2 = some (.lst (us ++ wd12.map V.str)) := upd_same
    have ho6 : ∀ e ∈ es ++ wd12.map Dx.str, Dx.ok 92 22 e := by
      intro e he
      rcases List.mem_append.mp he with he | he
      · exact hok e he
      · obtain ⟨x, hx, rfl⟩ := List.mem_map.mp he
        exact Nat.le_trans (wd12_len x hx) (by decide)
    have L6 : (us ++ wd12.map V.str).length = 72 := by rw [List.length_append, List.length_map, show wd12.length = 12 from rfl]; omega
    generalize upd H5 l2 (.lst (us ++ wd12.map V.str)) = H6 at IA6 hl6
    generalize us ++ wd12.map V.str = ws at IA6 hl6 L6
    generalize es ++ wd12.map Dx.str = ds at IA6 ho6
    refine ⟨_, rfl, _, rfl, _, rfl, l2, ws, rfl, SqL.of hl6, fun p hp => ?_⟩
    obtain ⟨cs, IA7, hcs⟩ := (IA6.mono (KindS.of_same (same_new hp (.lst (cutV ws none (some 5)))))).cut none (some 5)
    have lc := cutV_length ws none (some 5)
    have hp7 : upd H6 p (.lst (cutV ws none (some 5))) p = some (.lst (cutV ws none (some 5))) := upd_same
    have N7 := same_new hp (.lst (cutV ws none (some 5)))
    have hl7 := N7 _ _ hl6
    generalize upd H6 p (.lst (cutV ws none (some 5))) = H7 at IA7 hp7 hl7 N7
    generalize cutV ws none (some 5) = zs at IA7 hp7 lc
    refine ⟨l2, p, ws, zs, rfl, rfl, hl7, hp7, sz5 (by omega), fun l3 hl3 => ?_⟩
    have N8 := same_new hl3 (.lst (ws ++ zs))
    have IA8 := ((IA6.mono (KindS.of_same N7)).app IA7).mono (KindS.of_same N8)
    have hl8 : upd H7 l3 (.lst (ws ++ zs)) l3 = some (.lst (ws ++ zs)) := upd_same
    have ho8 : ∀ e ∈ ds ++ cs, Dx.ok 92 22 e := by
      intro e he
      rcases List.mem_append.mp he with he | he
      · exact ho6 e he
      · exact ho6 e (hcs e he)
    generalize upd H7 l3 (.lst (ws ++ zs)) = H8 at IA8 hl8
    have L8 : (ws ++ zs).length ≤ 1000 := by rw [List.length_append]; omega
    generalize ws ++ zs = xs at IA8 hl8 L8
    generalize ds ++ cs = ds' at IA8 ho8
    have lx := IA8.len
    refine ⟨l3, rfl, ⟨xs, SqL.of hl8⟩, fun Z hZ => ?_⟩
    refine lc_bools (bs := ds'.map fun _ => true) walk_list (by rw [List.length_map, lx]) (fun H' S' => SqL.of (S' _ _ hl8)) (by omega) hZ (fun x => rfl) ?_ ?_
    · intro i x bv H9 Q' hx hbv S9 q9
      obtain ⟨e, he, hxe⟩ := IA8.get hx
      rw [List.getElem?_map, he] at hbv
      cases hbv
      exact ⟨_, rfl, x, e, 92, 22, rfl, hxe.mono (KindS.of_same S9), ho8 e (List.mem_of_getElem? he), rfl, by decide, q9⟩
    · intro H9 S9 hZ9
      refine ⟨Z, _, rfl, SqL.of hZ9, ?_⟩
      have e : (ds'.map fun _ => true).all id = true := by
        rw [List.all_map]
        exact List.all_eq_true.mpr fun _ _ => rfl
      rw [e]
      exact q _
end
end Nf


set_option Elab.async false
set_option linter.all false
set_option maxRecDepth 100000
set_option maxHeartbeats 0
namespace Nf
open PySem L2
def dd_is_text_of : He.DefD := ⟨("is_text_of", none), "is_text_of", "is_text_of", defArgs s_is_text_of, defBody s_is_text_of, defScope s_is_text_of, [], []⟩
def dd_is_word : He.DefD := ⟨("is_word", none), "is_word", "is_word", defArgs s_is_word, defBody s_is_word, defScope s_is_word, [], []⟩
def dd_is_new_name : He.DefD := ⟨("is_new_name", none), "is_new_name", "is_new_name", defArgs s_is_new_name, defBody s_is_new_name, defScope s_is_new_name, [], []⟩
def dd_is_node : He.DefD := ⟨("is_node", none), "is_node", "is_node", defArgs s_is_node, defBody s_is_node, defScope s_is_node, [], []⟩
def dd_parts_of : He.DefD := ⟨("parts_of", none), "parts_of", "parts_of", defArgs s_parts_of, defBody s_parts_of, defScope s_parts_of, [], []⟩
def dd_is_saying_of : He.DefD := ⟨("is_saying_of", none), "is_saying_of", "is_saying_of", defArgs s_is_saying_of, defBody s_is_saying_of, defScope s_is_saying_of, [], []⟩
def dd_is_saying : He.DefD := ⟨("is_saying", none), "is_saying", "is_saying", defArgs s_is_saying, defBody s_is_saying, defScope s_is_saying, [], []⟩
def dd_is_thing : He.DefD := ⟨("is_thing", none), "is_thing", "is_thing", defArgs s_is_thing, defBody s_is_thing, defScope s_is_thing, [], []⟩
def dd_is_plain : He.DefD := ⟨("is_plain", none), "is_plain", "is_plain", defArgs s_is_plain, defBody s_is_plain, defScope s_is_plain, [], []⟩
def dd_deck : He.DefD := ⟨("_law_deck", none), "_law_deck", "_law_deck", defArgs s_deck, defBody s_deck, defScope s_deck, [], []⟩
def dd_next : He.DefD := ⟨("_law_next", none), "_law_next", "_law_next", defArgs s_next, defBody s_next, defScope s_next, [], []⟩
def dd_letters : He.DefD := ⟨("_law_letters", none), "_law_letters", "_law_letters", defArgs s_letters, defBody s_letters, defScope s_letters, [], []⟩
def dd_name : He.DefD := ⟨("_law_name", none), "_law_name", "_law_name", defArgs s_name, defBody s_name, defScope s_name, [], []⟩
def dd_any : He.DefD := ⟨("_law_any", none), "_law_any", "_law_any", defArgs s_any, defBody s_any, defScope s_any, [], []⟩
def dd_l_is_word : He.DefD := ⟨("_law_is_word", none), "_law_is_word", "_law_is_word", defArgs s_l_is_word, defBody s_l_is_word, defScope s_l_is_word, [], []⟩
def dd_is_new : He.DefD := ⟨("_law_is_new", none), "_law_is_new", "_law_is_new", defArgs s_is_new, defBody s_is_new, defScope s_is_new, [], []⟩
def dd_is : He.DefD := ⟨("_law_is", none), "_law_is", "_law_is", defArgs s_is, defBody s_is, defScope s_is, [], []⟩
def dd_odd : He.DefD := ⟨("_law_odd", none), "_law_odd", "_law_odd", defArgs s_odd, defBody s_odd, defScope s_odd, [], []⟩
def dd_text_bent : He.DefD := ⟨("_law_text_bent", none), "_law_text_bent", "_law_text_bent", defArgs s_text_bent, defBody s_text_bent, defScope s_text_bent, [], []⟩
def dd_bent : He.DefD := ⟨("_law_bent", none), "_law_bent", "_law_bent", defArgs s_bent, defBody s_bent, defScope s_bent, [], []⟩
def dd_heads : He.DefD := ⟨("_law_heads", none), "_law_heads", "_law_heads", defArgs s_heads, defBody s_heads, defScope s_heads, [], []⟩
def dd_says : He.DefD := ⟨("_law_says", none), "_law_says", "_law_says", defArgs s_says, defBody s_says, defScope s_says, [], []⟩
def dd_right : He.DefD := ⟨("_law_right", none), "_law_right", "_law_right", defArgs s_right, defBody s_right, defScope s_right, [], []⟩
def dd_law : He.DefD := ⟨("law", none), "law", "law", defArgs s_law, defBody s_law, defScope s_law, [], []⟩
def fns : List He.DefD := [dd_is_text_of, dd_is_word, dd_is_new_name, dd_is_node, dd_parts_of, dd_is_saying_of, dd_is_saying, dd_is_thing, dd_is_plain, dd_deck, dd_next, dd_letters, dd_name, dd_any, dd_l_is_word, dd_is_new, dd_is, dd_odd, dd_text_bent, dd_bent, dd_heads, dd_says, dd_right, dd_law]
def fas : List He.Fa := [.glo "is_text_of", .glo "is_word", .glo "is_new_name", .glo "is_node", .glo "parts_of", .glo "is_saying_of", .glo "is_saying", .glo "is_thing", .glo "is_plain", .glo "_law_deck", .glo "_law_next", .glo "_law_letters", .glo "_law_name", .glo "_law_any", .glo "_law_is_word", .glo "_law_is_new", .glo "_law_is", .glo "_law_odd", .glo "_law_text_bent", .glo "_law_bent", .glo "_law_heads", .glo "_law_says", .glo "_law_right", .glo "law", .free "len", .free "abs", .free "range", .free "zip", .free "isinstance", .free "all", .free "tuple", .free "str", .free "int", .free "bool", .free "enumerate", .free "list", .free "dict", .free "any"]
def loose : List PySem.Str := ["is_text_of", "is_word", "is_new_name", "is_node", "parts_of", "is_saying_of", "is_saying", "is_thing", "is_plain", "_law_deck", "_law_next", "_law_letters", "_law_name", "_law_any", "_law_is_word", "_law_is_new", "_law_is", "_law_odd", "_law_text_bent", "_law_bent", "_law_heads", "_law_says", "_law_right", "LETTERS", "FIGURES", "MOST_LETTERS", "MOST_FIGURES", "MOST_PARTS", "KEPT_WORDS", "EVERY_HEAD", "THING_HEADS", "PLAIN_HEADS"]
def fas1 : List He.Fa := fas ++ [.str "LETTERS" "abcdefghijklmnopqrstuvwxyz", .str "FIGURES" "0123456789", .int "MOST_LETTERS" 8, .int "MOST_FIGURES" 3, .int "MOST_PARTS" 3, .glo "KEPT_WORDS", .glo "EVERY_HEAD", .glo "THING_HEADS", .glo "PLAIN_HEADS"]
def exB (K : PySem.W.Frag) : Bool := He.tupB K "KEPT_WORDS" [.str "kind", .str "def", .str "either", .str "same", .str "truth"] && (He.tupB K "EVERY_HEAD" [.str "name", .str "made", .str "call", .str "either", .str "same", .str "skip"] &&
  (He.tupB K "THING_HEADS" [.str "name", .str "made"] && He.tupB K "PLAIN_HEADS" [.str "made"]))
abbrev R : PySem.W.OpenRow := PySem.W.OpenLaw.row PySem.Challenge.rw_needfill_k01_words_and_sayings
abbrev hk : PySem.W.Hook := hookB 4 fas1 fns exB
def ob (s : PySem.W.SharedT) : AlB := obsB 4 fas1 fns exB (HandSHeadRun.getT s)
theorem ob_eq (s : PySem.W.SharedT) : ob s = hk.obs s.abs := obsB_eq (HandSHeadRun.getT_eq s)
theorem run (w : World) : HandSHeadRun.RunEq R (PySem.W.view R.prog [34]) hk ob 3000 loose w := by
  intro os
  kernel_rfl
theorem facts {P : Program} {w : World} {K : PySem.W.Frag} {h : Heap} {mg : Str → Option Value} {f : Addr} (X : K.In h) (G : h.Ns mainGlobals mg) (hfa : mg ("law" : Str) = some (.ref f)) (c : He.SaysD fas1 fns K) (cx : exB K = true) :
    ∃ fd : FuncData, (∀ (s : Shared) (v : Value), BindsTo s fd ⟨[v], []⟩ [("_law_script", v)]) ∧ ∀ base : Heap, K.In base → base.Ns mainGlobals mg → FnOk P w K mg base CX0 25 f fd ["_law_script"] (spLaw K) := by
  obtain ⟨e_is_text_of, F0_is_text_of⟩ := c.def_ 0 (d := dd_is_text_of) rfl
  have C_is_text_of : Cal K mg "is_text_of" s_is_text_of P_is_text_of _ e_is_text_of := ⟨F0_is_text_of, He.glo_ok X G (c.fact 0 (f := .glo "is_text_of") rfl), FunD.bindsN (ps := P_is_text_of) F0_is_text_of fun _ _ _ _ _ _ us hl => match us, hl with | [_, _, _], _ => rfl⟩
  obtain ⟨e_is_word, F0_is_word⟩ := c.def_ 1 (d := dd_is_word) rfl
  have C_is_word : Cal K mg "is_word" s_is_word P_is_word _ e_is_word := ⟨F0_is_word, He.glo_ok X G (c.fact 1 (f := .glo "is_word") rfl), FunD.bindsN (ps := P_is_word) F0_is_word fun _ _ _ _ _ _ us hl => match us, hl with | [_], _ => rfl⟩
  obtain ⟨e_is_new_name, F0_is_new_name⟩ := c.def_ 2 (d := dd_is_new_name) rfl
  have C_is_new_name : Cal K mg "is_new_name" s_is_new_name P_is_new_name _ e_is_new_name := ⟨F0_is_new_name, He.glo_ok X G (c.fact 2 (f := .glo "is_new_name") rfl), FunD.bindsN (ps := P_is_new_name) F0_is_new_name fun _ _ _ _ _ _ us hl => match us, hl with | [_], _ => rfl⟩
  obtain ⟨e_is_node, F0_is_node⟩ := c.def_ 3 (d := dd_is_node) rfl
  have C_is_node : Cal K mg "is_node" s_is_node P_is_node _ e_is_node := ⟨F0_is_node, He.glo_ok X G (c.fact 3 (f := .glo "is_node") rfl), FunD.bindsN (ps := P_is_node) F0_is_node fun _ _ _ _ _ _ us hl => match us, hl with | [_], _ => rfl⟩
  obtain ⟨e_parts_of, F0_parts_of⟩ := c.def_ 4 (d := dd_parts_of) rfl
  have C_parts_of : Cal K mg "parts_of" s_parts_of P_parts_of _ e_parts_of := ⟨F0_parts_of, He.glo_ok X G (c.fact 4 (f := .glo "parts_of") rfl), FunD.bindsN (ps := P_parts_of) F0_parts_of fun _ _ _ _ _ _ us hl => match us, hl with | [_], _ => rfl⟩
  obtain ⟨e_is_saying_of, F0_is_saying_of⟩ := c.def_ 5 (d := dd_is_saying_of) rfl
  have C_is_saying_of : Cal K mg "is_saying_of" s_is_saying_of P_is_saying_of _ e_is_saying_of := ⟨F0_is_saying_of, He.glo_ok X G (c.fact 5 (f := .glo "is_saying_of") rfl), FunD.bindsN (ps := P_is_saying_of) F0_is_saying_of fun _ _ _ _ _ _ us hl => match us, hl with | [_, _], _ => rfl⟩
  obtain ⟨e_is_saying, F0_is_saying⟩ := c.def_ 6 (d := dd_is_saying) rfl
  have C_is_saying : Cal K mg "is_saying" s_is_saying P_is_saying _ e_is_saying := ⟨F0_is_saying, He.glo_ok X G (c.fact 6 (f := .glo "is_saying") rfl), FunD.bindsN (ps := P_is_saying) F0_is_saying fun _ _ _ _ _ _ us hl => match us, hl with | [_], _ => rfl⟩
  obtain ⟨e_is_thing, F0_is_thing⟩ := c.def_ 7 (d := dd_is_thing) rfl
  have C_is_thing : Cal K mg "is_thing" s_is_thing P_is_thing _ e_is_thing := ⟨F0_is_thing, He.glo_ok X G (c.fact 7 (f := .glo "is_thing") rfl), FunD.bindsN (ps := P_is_thing) F0_is_thing fun _ _ _ _ _ _ us hl => match us, hl with | [_], _ => rfl⟩
  obtain ⟨e_is_plain, F0_is_plain⟩ := c.def_ 8 (d := dd_is_plain) rfl
  have C_is_plain : Cal K mg "is_plain" s_is_plain P_is_plain _ e_is_plain := ⟨F0_is_plain, He.glo_ok X G (c.fact 8 (f := .glo "is_plain") rfl), FunD.bindsN (ps := P_is_plain) F0_is_plain fun _ _ _ _ _ _ us hl => match us, hl with | [_], _ => rfl⟩
  obtain ⟨e_deck, F0_deck⟩ := c.def_ 9 (d := dd_deck) rfl
  have C_deck : Cal K mg "_law_deck" s_deck P_deck _ e_deck := ⟨F0_deck, He.glo_ok X G (c.fact 9 (f := .glo "_law_deck") rfl), FunD.bindsN (ps := P_deck) F0_deck fun _ _ _ _ _ _ us hl => match us, hl with | [_], _ => rfl⟩
  obtain ⟨e_next, F0_next⟩ := c.def_ 10 (d := dd_next) rfl
  have C_next : Cal K mg "_law_next" s_next P_next _ e_next := ⟨F0_next, He.glo_ok X G (c.fact 10 (f := .glo "_law_next") rfl), FunD.bindsN (ps := P_next) F0_next fun _ _ _ _ _ _ us hl => match us, hl with | [_], _ => rfl⟩
  obtain ⟨e_letters, F0_letters⟩ := c.def_ 11 (d := dd_letters) rfl
  have C_letters : Cal K mg "_law_letters" s_letters P_letters _ e_letters := ⟨F0_letters, He.glo_ok X G (c.fact 11 (f := .glo "_law_letters") rfl), FunD.bindsN (ps := P_letters) F0_letters fun _ _ _ _ _ _ us hl => match us, hl with | [_, _], _ => rfl⟩
  obtain ⟨e_name, F0_name⟩ := c.def_ 12 (d := dd_name) rfl
  have C_name : Cal K mg "_law_name" s_name P_name _ e_name := ⟨F0_name, He.glo_ok X G (c.fact 12 (f := .glo "_law_name") rfl), FunD.bindsN (ps := P_name) F0_name fun _ _ _ _ _ _ us hl => match us, hl with | [_], _ => rfl⟩
  obtain ⟨e_any, F0_any⟩ := c.def_ 13 (d := dd_any) rfl
  have C_any : Cal K mg "_law_any" s_any P_any _ e_any := ⟨F0_any, He.glo_ok X G (c.fact 13 (f := .glo "_law_any") rfl), FunD.bindsN (ps := P_any) F0_any fun _ _ _ _ _ _ us hl => match us, hl with | [_, _, _], _ => rfl⟩
  obtain ⟨e_l_is_word, F0_l_is_word⟩ := c.def_ 14 (d := dd_l_is_word) rfl
  have C_l_is_word : Cal K mg "_law_is_word" s_l_is_word P_l_is_word _ e_l_is_word := ⟨F0_l_is_word, He.glo_ok X G (c.fact 14 (f := .glo "_law_is_word") rfl), FunD.bindsN (ps := P_l_is_word) F0_l_is_word fun _ _ _ _ _ _ us hl => match us, hl with | [_], _ => rfl⟩
  obtain ⟨e_is_new, F0_is_new⟩ := c.def_ 15 (d := dd_is_new) rfl
  have C_is_new : Cal K mg "_law_is_new" s_is_new P_is_new _ e_is_new := ⟨F0_is_new, He.glo_ok X G (c.fact 15 (f := .glo "_law_is_new") rfl), FunD.bindsN (ps := P_is_new) F0_is_new fun _ _ _ _ _ _ us hl => match us, hl with | [_], _ => rfl⟩
  obtain ⟨e_is, F0_is⟩ := c.def_ 16 (d := dd_is) rfl
  have C_is : Cal K mg "_law_is" s_is P_is _ e_is := ⟨F0_is, He.glo_ok X G (c.fact 16 (f := .glo "_law_is") rfl), FunD.bindsN (ps := P_is) F0_is fun _ _ _ _ _ _ us hl => match us, hl with | [_, _], _ => rfl⟩
  obtain ⟨e_odd, F0_odd⟩ := c.def_ 17 (d := dd_odd) rfl
  have C_odd : Cal K mg "_law_odd" s_odd P_odd _ e_odd := ⟨F0_odd, He.glo_ok X G (c.fact 17 (f := .glo "_law_odd") rfl), FunD.bindsN (ps := P_odd) F0_odd fun _ _ _ _ _ _ us hl => match us, hl with | [_], _ => rfl⟩
  obtain ⟨e_text_bent, F0_text_bent⟩ := c.def_ 18 (d := dd_text_bent) rfl
  have C_text_bent : Cal K mg "_law_text_bent" s_text_bent P_text_bent _ e_text_bent := ⟨F0_text_bent, He.glo_ok X G (c.fact 18 (f := .glo "_law_text_bent") rfl), FunD.bindsN (ps := P_text_bent) F0_text_bent fun _ _ _ _ _ _ us hl => match us, hl with | [_, _], _ => rfl⟩
  obtain ⟨e_bent, F0_bent⟩ := c.def_ 19 (d := dd_bent) rfl
  have C_bent : Cal K mg "_law_bent" s_bent P_bent _ e_bent := ⟨F0_bent, He.glo_ok X G (c.fact 19 (f := .glo "_law_bent") rfl), FunD.bindsN (ps := P_bent) F0_bent fun _ _ _ _ _ _ us hl => match us, hl with | [_, _], _ => rfl⟩
  obtain ⟨e_heads, F0_heads⟩ := c.def_ 20 (d := dd_heads) rfl
  have C_heads : Cal K mg "_law_heads" s_heads P_heads _ e_heads := ⟨F0_heads, He.glo_ok X G (c.fact 20 (f := .glo "_law_heads") rfl), FunD.bindsN (ps := P_heads) F0_heads fun _ _ _ _ _ _ us hl => match us, hl with | [_], _ => rfl⟩
  obtain ⟨e_says, F0_says⟩ := c.def_ 21 (d := dd_says) rfl
  have C_says : Cal K mg "_law_says" s_says P_says _ e_says := ⟨F0_says, He.glo_ok X G (c.fact 21 (f := .glo "_law_says") rfl), FunD.bindsN (ps := P_says) F0_says fun _ _ _ _ _ _ us hl => match us, hl with | [_, _], _ => rfl⟩
  obtain ⟨e_right, F0_right⟩ := c.def_ 22 (d := dd_right) rfl
  have C_right : Cal K mg "_law_right" s_right P_right _ e_right := ⟨F0_right, He.glo_ok X G (c.fact 22 (f := .glo "_law_right") rfl), FunD.bindsN (ps := P_right) F0_right fun _ _ _ _ _ _ us hl => match us, hl with | [_], _ => rfl⟩
  obtain ⟨e_law, F0_law⟩ := c.def_ 23 (d := dd_law) rfl
  have C_law : Cal K mg "law" s_law P_law _ e_law := ⟨F0_law, He.glo_ok X G (c.fact 23 (f := .glo "law") rfl), FunD.bindsN (ps := P_law) F0_law fun _ _ _ _ _ _ us hl => match us, hl with | [_], _ => rfl⟩
  have T : Bt mg := ⟨He.free_ok X G (c.fact 24 (f := .free "len") rfl), He.free_ok X G (c.fact 25 (f := .free "abs") rfl), He.free_ok X G (c.fact 26 (f := .free "range") rfl), He.free_ok X G (c.fact 27 (f := .free "zip") rfl), He.free_ok X G (c.fact 28 (f := .free "isinstance") rfl), He.free_ok X G (c.fact 29 (f := .free "all") rfl), He.free_ok X G (c.fact 30 (f := .free "tuple") rfl), He.free_ok X G (c.fact 31 (f := .free "str") rfl), He.free_ok X G (c.fact 32 (f := .free "int") rfl), He.free_ok X G (c.fact 33 (f := .free "bool") rfl), He.free_ok X G (c.fact 34 (f := .free "enumerate") rfl), He.free_ok X G (c.fact 35 (f := .free "list") rfl), He.free_ok X G (c.fact 36 (f := .free "dict") rfl), He.free_ok X G (c.fact 37 (f := .free "any") rfl)⟩
  have e := hfa.symm.trans C_law.m
  cases e
  have b := FunD.bindsA (ps := ["_law_script"]) F0_law fun _ _ _ _ _ _ us hl => match us, hl with | [_], _ => rfl
  refine ⟨e_law, fun s v => b s [v] rfl, fun base _ _ => ?_⟩
  obtain ⟨tL, hL⟩ := He.str_ok X G (c.fact 38 (f := .str "LETTERS" "abcdefghijklmnopqrstuvwxyz") rfl)
  obtain ⟨tF, hF⟩ := He.str_ok X G (c.fact 39 (f := .str "FIGURES" "0123456789") rfl)
  obtain ⟨tm, hm⟩ := He.int_ok X G (c.fact 40 (f := .int "MOST_LETTERS" 8) rfl)
  obtain ⟨tn, hn⟩ := He.int_ok X G (c.fact 41 (f := .int "MOST_FIGURES" 3) rfl)
  obtain ⟨tp, hp⟩ := He.int_ok X G (c.fact 42 (f := .int "MOST_PARTS" 3) rfl)
  obtain ⟨x1, cx⟩ := He.ba cx
  obtain ⟨x2, cx⟩ := He.ba cx
  obtain ⟨x3, x4⟩ := He.ba cx
  have T1 : Bt1 K mg tL tF tm tn tp (He.ga K "KEPT_WORDS") (He.ga K "EVERY_HEAD") (He.ga K "THING_HEADS") (He.ga K "PLAIN_HEADS") :=
    ⟨T, hL, hF, hm, hn, hp, He.glo_ok X G (c.fact 43 (f := .glo "KEPT_WORDS") rfl), He.glo_ok X G (c.fact 44 (f := .glo "EVERY_HEAD") rfl), He.glo_ok X G (c.fact 45 (f := .glo "THING_HEADS") rfl), He.glo_ok X G (c.fact 46 (f := .glo "PLAIN_HEADS") rfl),
      fun H => He.tupB_ok x1 H, fun H => He.tupB_ok x2 H, fun H => He.tupB_ok x3 H, fun H => He.tupB_ok x4 H⟩
  have G_next := ok_next (P := P) (w := w) (base := base) T C_next
  have G_letters := ok_letters T C_letters C_next G_next
  have G_name := ok_name T C_name C_next G_next C_letters G_letters
  have G_any := ok_any T C_any C_next G_next C_name G_name
  have G_text := ok_text (P := P) (w := w) (base := base) T C_is_text_of
  have G_word := ok_word T1 C_is_word C_is_text_of G_text
  have G_new := ok_new T1 C_is_new_name C_is_text_of G_text
  have G_node := ok_node T1 C_is_node C_is_word G_word C_is_new_name G_new
  have G_parts := ok_partsX (P := P) (w := w) (base := base) T C_parts_of
  have G_sayof := ok_sayof T C_is_saying_of C_is_node G_node C_parts_of G_parts
  have G_lword := ok_lword (P := P) (w := w) (base := base) T C_l_is_word
  have G_lnew := ok_lnew (P := P) (w := w) (base := base) T C_is_new
  have G_lis := ok_lis T C_is C_l_is_word G_lword C_is_new G_lnew
  have G_odd := ok_odd (P := P) (w := w) (base := base) T C_odd
  have G_tbent := ok_tbent (P := P) (w := w) (base := base) T C_text_bent
  have G_bent := ok_bent T C_bent C_next G_next C_text_bent G_tbent C_odd G_odd
  have G_right := ok_right T C_right C_says (ok_says T C_says) C_is_saying (ok_saying T1 C_is_saying C_is_saying_of G_sayof) C_is_thing (ok_thing T1 C_is_thing C_is_saying_of G_sayof) C_is_plain (ok_plain T1 C_is_plain C_is_saying_of G_sayof)
    C_is_word G_word C_is (G_lis 22) C_l_is_word G_lword
  exact ok_law T C_law C_next G_next C_deck (ok_deck T C_deck) C_any (G_any 5) C_heads (ok_heads T C_heads) C_bent (ok_bentA G_bent) C_name G_name C_letters G_letters C_right G_right
end Nf
open PySem PySem.W PySem.Calls PyProof.Rows
set_option maxRecDepth 100000 in
set_option maxHeartbeats 0 in
theorem PySem.Challenge.cw_needfill_k01_words_and_sayings_holds : PySem.Challenge.rw_needfill_k01_words_and_sayings.Holds := by
  w_on; o_law
  refine HandSHeadRun.head_any (r := OpenLaw.row PySem.Challenge.rw_needfill_k01_words_and_sayings) (q := view (OpenLaw.row PySem.Challenge.rw_needfill_k01_words_and_sayings).prog [34]) (H := Nf.hk) (ob := Nf.ob) (M := 3000) (loose := Nf.loose) (d := HandSHeadRun.topDef (OpenLaw.row PySem.Challenge.rw_needfill_k01_words_and_sayings).prog 34) (kwd := []) Nf.ob_eq
    (by kernel_rfl) (fun s => by kernel_rfl) Nf.run (by kernel_rfl) (by kernel_rfl) (by kernel_rfl) (by rfl) (by first | assumption | decide +kernel) (by decide +kernel) ⟨rfl, rfl, rfl, rfl, rfl, by decide +kernel⟩ ?hw ?hc
  case hw => w_witness2
  case hc =>
    refine L2.walk_ofE (l := PySem.Challenge.rw_needfill_k01_words_and_sayings) (n := 63) (k := 25) (x := "_law_script") (CX := L2.CX0) rfl (by decide) (by kernel_rfl) ⟨rfl, by decide, by decide⟩ ?F (fun _ _ _ _ z => z)
    intro w mg fa h Y G hmg0
    obtain ⟨K, KX, c, cx⟩ := Y
    have hmg : mg ("law" : PySem.Str) = some (.ref fa) := by
      have e : (HandSHeadRun.topDef (OpenLaw.row PySem.Challenge.rw_needfill_k01_words_and_sayings).prog 34).name = ("law" : PySem.Str) := by kernel_rfl
      rw [← e]
      exact hmg0
    obtain ⟨fd, hb, hF⟩ := Nf.facts (P := (PySem.Challenge.rw_needfill_k01_words_and_sayings).prog) (w := w) KX G hmg c cx
    exact ⟨K, fd, Nf.spLaw K, KX, hb, fun H a ns hl _ hS => ⟨a, ns, rfl, hS, hl, fun _ => rfl⟩, hF⟩


