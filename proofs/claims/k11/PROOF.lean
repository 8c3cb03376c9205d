import PyProof.Rows.All
import Wide.All
import OpenK.AllK
import Wide.FinOn
import HandS.ForMost
import HandS.Wide
import HandS.IsInst
import HandS.Zip
import HandS.Walk
import HandS.Conv
import HandS.Star
import HandS.DictComp
import HandS.Style
import HandS.Flow
import HandS.TupAny
import HandS.ListItems
import HandS.Defaults
import KE.KStateDown
import Lean
import HandS.More
import HandS.WordsExc
import HandS.Head0
import HandS.Head1
import HandS.Head2
import HandS.HeadEnd
import HandS.HeadHook1
import HandS.HeadHook2
import HandS.Text
import KE.KxIndex
import KE.GoesEnum
import KE.KDictZip
import HandS.Exc
import HandS.ExcInit
import HandS.ExcField
import HandS.ExcIs
import HandS.ExcValue
import KE.KExcIs
import PyProof.DictUpdate
import PySem.Challenge.RW_needfill_k11_kinds_of_nothing
set_option Elab.async false
set_option linter.all false
set_option maxRecDepth 100000
namespace Nf
open PySem L2

/-! ### heaps: all that was tracked stays, but for some addresses -/
def Keep (D : List Addr) (H H' : Hp) : Prop := ∀ a o, H a = some o → a ∉ D → H' a = some o
theorem Keep.refl (D : List Addr) (H : Hp) : Keep D H H := fun _ _ h _ => h
theorem Keep.trans {D : List Addr} {H H1 H2 : Hp} (a : Keep D H H1) (b : Keep D H1 H2) : Keep D H H2 := fun c o h n => b c o (a c o h n) n
theorem Keep.of_same {D : List Addr} {H H' : Hp} (s : Same H H') : Keep D H H' := fun a o h _ => s a o h
theorem Keep.new {D : List Addr} {H H' : Hp} {p : Addr} {o : HO} (k : Keep D H H') (h : H' p = none) : Keep D H (upd H' p o) := fun a u e n => by
  rw [upd_ne (ne_of_none (k a u e n) h)]; exact k a u e n
theorem Keep.mut {D : List Addr} {H H' : Hp} {p : Addr} {o : HO} (k : Keep D H H') (h : p ∈ D) : Keep D H (upd H' p o) := fun a u e n => by
  have : a ≠ p := fun z => n (z ▸ h)
  rw [upd_ne this]; exact k a u e n
/-- an object that H does not know may change -/
theorem Keep.mutN {D : List Addr} {H H' : Hp} {p : Addr} {o : HO} (k : Keep D H H') (h : H p = none) : Keep D H (upd H' p o) := fun a u e n => by
  rw [upd_ne (ne_of_none e h)]; exact k a u e n
theorem Keep.weak {D E : List Addr} {H H' : Hp} (k : Keep D H H') (s : ∀ a, a ∈ D → a ∈ E) : Keep E H H' := fun a o h n => k a o h fun z => n (s a z)
theorem Keep.same {H H' : Hp} (k : Keep [] H H') : Same H H' := fun a o h => k a o h (by simp)
theorem Keep.free' {D : List Addr} {H H' : Hp} (e : Keep D H H') {l : Addr} (h : H' l = Option.none) (n : l ∉ D) : H l = Option.none := by
  cases q : H l with
  | none => rfl
  | some o =>
    rw [e l o q n] at h
    cases h
theorem same_new {H : Hp} {p : Addr} (h : H p = none) (o : HO) : Same H (upd H p o) := fun b u q => by rw [upd_ne (ne_of_none q h)]; exact q
theorem _root_.L2.Same.new {H H' : Hp} {p : Addr} {o : HO} (k : Same H H') (h : H' p = none) : Same H (upd H' p o) := k.trans (same_new h o)
theorem _root_.L2.Same.mutN {H H' : Hp} {p : Addr} {o : HO} (k : Same H H') (h : H p = none) : Same H (upd H' p o) := fun a u e => by
  rw [upd_ne (ne_of_none e h)]; exact k a u e
theorem _root_.L2.Same.keepN {H H' : Hp} (k : Same H H') : Keep [] H H' := Keep.of_same k

/-- all tuples stay -/
def TupS (H H' : Hp) : Prop := ∀ a xs, H a = some (.tup xs) → H' a = some (.tup xs)
theorem TupS.refl (H : Hp) : TupS H H := fun _ _ h => h
theorem TupS.trans {H H1 H2 : Hp} (a : TupS H H1) (b : TupS H1 H2) : TupS H H2 := fun c o h => b c o (a c o h)
theorem _root_.L2.Same.tups {H H' : Hp} (s : Same H H') : TupS H H' := fun a _ h => s a _ h
/-- no tuple stands at these places -/
def NoTup (D : List Addr) (H : Hp) : Prop := ∀ a ∈ D, ∀ xs, H a ≠ some (.tup xs)
theorem Keep.tups {D : List Addr} {H H' : Hp} (k : Keep D H H') (n : NoTup D H) : TupS H H' := fun a xs h => k a _ h fun m => n a m xs h
theorem TupS.new {H H' : Hp} {p : Addr} {o : HO} (k : TupS H H') (h : H' p = none) : TupS H (upd H' p o) := fun a u e => by
  rw [upd_ne (ne_of_none (k a u e) h)]; exact k a u e
theorem TupS.mutL {H H' : Hp} {p : Addr} {o : HO} {ys : List V} (k : TupS H H') (h : H' p = some (.lst ys)) : TupS H (upd H' p o) := fun a u e => by
  have q := k a u e
  have : a ≠ p := fun z => by rw [z, h] at q; cases q
  rw [upd_ne this]; exact q

/-! ### data of texts, numbers, truths, None and tuples -/
inductive Da where
  | non | bl (b : Bool) | int (i : Int) | str (x : Str) | tup (ds : List Da)
mutual
inductive Is (H : Hp) : V → Da → Prop
  | non : Is H .non .non
  | bl (b : Bool) : Is H (.bl b) (.bl b)
  | int (i : Int) : Is H (.int i) (.int i)
  | str (x : Str) : Is H (.str x) (.str x)
  | tup {a : Addr} {xs : List V} {ds : List Da} : H a = some (.tup xs) → IsA H xs ds → Is H (.ref a) (.tup ds)
inductive IsA (H : Hp) : List V → List Da → Prop
  | nil : IsA H [] []
  | cons {v : V} {vs : List V} {d : Da} {ds : List Da} : Is H v d → IsA H vs ds → IsA H (v :: vs) (d :: ds)
end
mutual
theorem Is.mono {H H' : Hp} (k : TupS H H') : ∀ {v : V} {d : Da}, Is H v d → Is H' v d
  | _, _, .non => .non
  | _, _, .bl b => .bl b
  | _, _, .int i => .int i
  | _, _, .str x => .str x
  | _, _, .tup h q => .tup (k _ _ h) (IsA.mono k q)
theorem IsA.mono {H H' : Hp} (k : TupS H H') : ∀ {v : List V} {d : List Da}, IsA H v d → IsA H' v d
  | _, _, .nil => .nil
  | _, _, .cons h q => .cons (Is.mono k h) (IsA.mono k q)
end
theorem IsA.len {H : Hp} : ∀ {vs : List V} {ds : List Da}, IsA H vs ds → vs.length = ds.length
  | _, _, .nil => rfl
  | _, _, .cons _ q => congrArg (· + 1) (IsA.len q)
theorem IsA.get {H : Hp} : ∀ {vs : List V} {ds : List Da} {i : Nat} {d : Da}, IsA H vs ds → ds[i]? = some d → ∃ v, vs[i]? = some v ∧ Is H v d
  | _, _, _, _, .nil, e => by simp at e
  | _, _, 0, _, .cons h _, e => by simp at e; subst e; exact ⟨_, rfl, h⟩
  | _, _, i + 1, d, .cons _ q, e => by
    obtain ⟨v, a, b⟩ := IsA.get (i := i) (d := d) q (by simpa using e)
    exact ⟨v, by simpa using a, b⟩
theorem IsA.getV {H : Hp} : ∀ {vs : List V} {ds : List Da} {i : Nat} {v : V}, IsA H vs ds → vs[i]? = some v → ∃ d, ds[i]? = some d ∧ Is H v d
  | _, _, _, _, .nil, e => by simp at e
  | _, _, 0, _, .cons h _, e => by simp at e; subst e; exact ⟨_, rfl, h⟩
  | _, _, i + 1, d, .cons _ q, e => by
    obtain ⟨v, a, b⟩ := IsA.getV (i := i) q (by simpa using e)
    exact ⟨v, by simpa using a, b⟩
theorem IsA.app {H : Hp} : ∀ {vs ws : List V} {ds es : List Da}, IsA H vs ds → IsA H ws es → IsA H (vs ++ ws) (ds ++ es)
  | _, _, _, _, .nil, s => s
  | _, _, _, _, .cons h q, s => .cons h (IsA.app q s)
theorem IsA.take {H : Hp} : ∀ {vs : List V} {ds : List Da} (n : Nat), IsA H vs ds → IsA H (vs.take n) (ds.take n)
  | _, _, 0, _ => .nil
  | _, _, _ + 1, .nil => .nil
  | _, _, n + 1, .cons h q => .cons h (IsA.take n q)
theorem IsA.drop {H : Hp} : ∀ {vs : List V} {ds : List Da} (n : Nat), IsA H vs ds → IsA H (vs.drop n) (ds.drop n)
  | _, _, 0, r => r
  | _, _, _ + 1, .nil => .nil
  | _, _, n + 1, .cons _ q => IsA.drop n q
/-- how deep, told by a bound -/
def Da.dep : Nat → Da → Prop
  | 0, _ => False
  | n + 1, .tup ds => ds.length ≤ 100000 ∧ ∀ d ∈ ds, Da.dep n d
  | _ + 1, _ => True
def Da.ty : Da → String
  | .non => "NoneType"
  | .bl _ => "bool"
  | .int _ => "int"
  | .str _ => "str"
  | .tup _ => "tuple"
theorem Is.ty {K : PySem.W.Frag} {H : Hp} {v : V} {d : Da} (h : Is H v d) : TyX K H v (.type d.ty) := by
  cases h with
  | non => exact .base .non
  | bl b => exact .base (.bl b)
  | int i => exact .base (.int i)
  | str x => exact .base (.str x)
  | tup h _ => exact .base (.tup h)
theorem walk_zipT {K : PySem.W.Frag} {a b : Addr} {xs ys : List V} {n : Nat} (hn : n = min xs.length ys.length) : Walk (RZ.ItzT K a b) n (fun H => SqT K H a xs ∧ SqT K H b ys) (YPair (fun i => xs[i]?) (fun i => ys[i]?)) := by
  subst hn
  refine ⟨fun i _ hi q => ?_, fun _ q => ⟨xs, ys, q.1, q.2, by omega⟩, fun i H v H' _ q y => ?_⟩
  · have h1 : i < xs.length := by omega
    have h2 : i < ys.length := by omega
    exact ⟨xs, ys, xs[i], ys[i], q.1, q.2, by simp [h1], by simp [h2]⟩
  · obtain ⟨T, x, z, h1, h2, h3, h4, h5⟩ := y
    exact ⟨T, x, z, h1, h2, h3, h4 xs q.1, h5 ys q.2⟩
theorem fn_never {P : Program} {w : World} {K : PySem.W.Frag} {mg : Str → Option Value} {base : Heap} {CX : CXT} {k : Nat} {f : Addr} {fd : FuncData} {ps : List Str} {sp : Sp} (no : ∀ vs H Q E, ¬ sp vs H Q E) : FnOk P w K mg base CX k f fd ps sp :=
  ⟨fun vs H Q E h => absurd h (no vs H Q E), fun _ _ _ H _ _ vs Q E _ _ _ _ h => absurd h (no vs H Q E)⟩
theorem yes_if {σ : L2.St} {H : Hp} {A B : Hp → Prop} (h : A H) : tYes σ H fun b H3 => if b = true then A H3 else B H3 := by
  show (if true = true then A H else B H)
  rw [if_pos rfl]
  exact h
theorem sz5 {n : Nat} (h : n ≤ 100000) : n ≤ sizeLine := Nat.le_trans h (by decide)
theorem sz5' {n : Nat} (h : n < 100000) : n < sizeLine := Nat.lt_of_lt_of_le h (by decide)
/-! alike -/
mutual
def Da.eq : Da → Da → Bool
  | .non, .non => true
  | .bl a, .bl b => a == b
  | .int i, .int j => decide (i = j)
  | .str x, .str y => decide (x = y)
  | .tup xs, .tup ys => Da.eqA xs ys
  | _, _ => false
def Da.eqA : List Da → List Da → Bool
  | [], [] => true
  | x :: xs, y :: ys => Da.eq x y && Da.eqA xs ys
  | _, _ => false
end
mutual
theorem Da.eq_refl : ∀ d : Da, Da.eq d d = true
  | .non => rfl
  | .bl b => by simp [Da.eq]
  | .int i => by simp [Da.eq]
  | .str x => by simp [Da.eq]
  | .tup ds => by simp only [Da.eq]; exact Da.eqA_refl ds
theorem Da.eqA_refl : ∀ d : List Da, Da.eqA d d = true
  | [] => rfl
  | d :: r => by simp only [Da.eqA, Da.eq_refl d, Da.eqA_refl r, Bool.and_self]
end
theorem Da.eqA_len : ∀ {xs ys : List Da}, xs.length ≠ ys.length → Da.eqA xs ys = false
  | [], [], h => absurd rfl h
  | [], _ :: _, _ => rfl
  | _ :: _, [], _ => rfl
  | x :: xs, y :: ys, h => by
    have := Da.eqA_len (xs := xs) (ys := ys) (fun e => h (by simp [e]))
    simp [Da.eqA, this]
theorem Da.eqA_zip : ∀ {xs ys : List Da}, xs.length = ys.length → Da.eqA xs ys = ((xs.zip ys).map fun p => Da.eq p.1 p.2).all id
  | [], [], _ => rfl
  | x :: xs, y :: ys, h => by
    have := Da.eqA_zip (xs := xs) (ys := ys) (by simpa using h)
    simp [Da.eqA, this]

/-! ### the deck -/
abbrev MM : Int := 2147483629
structure Deck (H : Hp) (d g c : Addr) (n : Nat) : Prop where
  ne1 : d ≠ g
  ne2 : d ≠ c
  ne3 : g ≠ c
  hd : ∃ k : Nat, H d = some (.lst [.ref g, .ref c, .int k]) ∧ k ≤ n
  hg : ∃ ds : List Int, H g = some (.lst (ds.map V.int)) ∧ ∀ x ∈ ds, 0 ≤ x ∧ x < MM
  hc : ∃ cs : List Int, H c = some (.lst (cs.map V.int)) ∧ 0 < cs.length ∧ cs.length ≤ 64 ∧ ∀ x ∈ cs, 0 ≤ x ∧ x < MM
theorem Deck.noTup {H : Hp} {d g c : Addr} {n : Nat} (D : Deck H d g c n) : NoTup [d, g, c] H := fun a m xs e => by
  obtain ⟨k, h1, _⟩ := D.hd
  obtain ⟨ds, h2, _⟩ := D.hg
  obtain ⟨cs, h3, _⟩ := D.hc
  simp only [List.mem_cons, List.not_mem_nil, or_false] at m
  rcases m with rfl | rfl | rfl
  · rw [h1] at e; cases e
  · rw [h2] at e; cases e
  · rw [h3] at e; cases e
theorem Deck.put {H : Hp} {d g c p : Addr} {n : Nat} {o : HO} (D : Deck H d g c n) (h : p ∉ [d, g, c]) : Deck (upd H p o) d g c n := by
  simp only [List.mem_cons, List.not_mem_nil, or_false, not_or] at h
  obtain ⟨a, b, e⟩ := h
  refine ⟨D.ne1, D.ne2, D.ne3, ?_, ?_, ?_⟩
  · rw [upd_ne (Ne.symm a)]; exact D.hd
  · rw [upd_ne (Ne.symm b)]; exact D.hg
  · rw [upd_ne (Ne.symm e)]; exact D.hc
theorem Deck.not_new {H : Hp} {d g c p : Addr} {n : Nat} (D : Deck H d g c n) (h : H p = none) : p ∉ [d, g, c] := by
  obtain ⟨k, h1, _⟩ := D.hd
  obtain ⟨ds, h2, _⟩ := D.hg
  obtain ⟨cs, h3, _⟩ := D.hc
  simp only [List.mem_cons, List.not_mem_nil, or_false, not_or]
  exact ⟨(ne_of_none h1 h).symm, (ne_of_none h2 h).symm, (ne_of_none h3 h).symm⟩
theorem Deck.new {H : Hp} {d g c p : Addr} {n : Nat} {o : HO} (D : Deck H d g c n) (h : H p = none) : Deck (upd H p o) d g c n := D.put (D.not_new h)
theorem Deck.le {H : Hp} {d g c : Addr} {n m : Nat} (D : Deck H d g c n) (h : n ≤ m) : Deck H d g c m := by
  obtain ⟨k, h1, h2⟩ := D.hd
  exact ⟨D.ne1, D.ne2, D.ne3, ⟨k, h1, by omega⟩, D.hg, D.hc⟩
theorem Deck.same {H H' : Hp} {d g c : Addr} {n : Nat} (D : Deck H d g c n) (s : Same H H') : Deck H' d g c n := by
  obtain ⟨k, h1, h2⟩ := D.hd
  obtain ⟨ds, h3, h4⟩ := D.hg
  obtain ⟨cs, h5, h6⟩ := D.hc
  exact ⟨D.ne1, D.ne2, D.ne3, ⟨k, s _ _ h1, h2⟩, ⟨ds, s _ _ h3, h4⟩, ⟨cs, s _ _ h5, h6⟩⟩
theorem mod_range {k m : Int} (h : 0 < m) : 0 ≤ k % m ∧ k % m < m := ⟨Int.emod_nonneg _ (by omega), Int.emod_lt_of_pos _ h⟩
theorem at_int {ns : List Int} {i : Int} (h0 : 0 ≤ i) (h1 : i < ns.length) : ∃ v, atI (ns.map V.int) i = some (.int v) ∧ v ∈ ns := by
  have hk : i.toNat < ns.length := by omega
  refine ⟨ns[i.toNat], at_of (j := i.toNat) (by omega) ?_, List.getElem_mem hk⟩
  rw [List.getElem?_map, List.getElem?_eq_getElem hk]; rfl
theorem at_nat {α : Type} {xs : List α} {f : α → V} {i : Int} (h0 : 0 ≤ i) (h1 : i < xs.length) : ∃ v, atI (xs.map f) i = some (f v) ∧ v ∈ xs ∧ xs[i.toNat]? = some v := by
  have hk : i.toNat < xs.length := by omega
  refine ⟨xs[i.toNat], at_of (j := i.toNat) (by omega) ?_, List.getElem_mem hk, List.getElem?_eq_getElem hk⟩
  rw [List.getElem?_map, List.getElem?_eq_getElem hk]; rfl
theorem atV {xs : List V} {i : Int} (h0 : 0 ≤ i) (h1 : i < xs.length) : ∃ v, atI xs i = some v ∧ xs[i.toNat]? = some v := by
  have hk : i.toNat < xs.length := by omega
  exact ⟨xs[i.toNat], at_of (j := i.toNat) (by omega) (List.getElem?_eq_getElem hk), List.getElem?_eq_getElem hk⟩
end Nf

set_option Elab.async false
set_option linter.all false
set_option maxRecDepth 100000
/-! data, frozen heaps, what a def's slots stand for -/
namespace Sh
open PySem L2 Nf
theorem nmem_of {l : List Nat} {i : Nat} (h : l.contains i = false) : i ∉ l := fun m => by
  rw [List.contains_iff_mem.mpr m] at h; cases h
theorem mem_of {l : List Nat} {i : Nat} (h : l.contains i = true) : i ∈ l := List.contains_iff_mem.mp h
inductive D where
  | non | bl (b : Bool) | int (i : Int) | str (x : Str) | tup (ds : List D) | lst (ds : List D) | dk (ks : List Key) (vs : List D) | ins (C : Addr) (ks : List Str) (vs : List D) | deck
structure Cn where
  K : PySem.W.Frag
  dk : Addr
def Le (R R' : Hp) : Prop := (∀ a u, Rd R a u → Rd R' a u) ∧ ∀ a xs, R a = some (.lst xs) → R' a = some (.lst xs)
theorem Le.refl (R : Hp) : Le R R := ⟨fun _ _ h => h, fun _ _ h => h⟩
theorem _root_.L2.Same.le {R R' : Hp} (s : Same R R') : Le R R' := ⟨fun a u h => by
  rcases h with h | ⟨o, h⟩
  · exact .inl (s _ _ h)
  · exact .inr ⟨o, s _ _ h⟩, fun a xs h => s _ _ h⟩
theorem Le.sqT {K : PySem.W.Frag} {R R' : Hp} (l : Le R R') {a : Addr} {xs : List V} (h : SqT K R a xs) : SqT K R' a xs := h.imp (l.1 a _) id
theorem Le.sqL {K : PySem.W.Frag} {R R' : Hp} (l : Le R R') {a : Addr} {xs : List V} (h : SqL K R a xs) : SqL K R' a xs := h.imp (l.1 a _) id
mutual
inductive Fz (c : Cn) (R : Hp) : V → D → Prop
  | non : Fz c R .non .non
  | bl (b : Bool) : Fz c R (.bl b) (.bl b)
  | int (i : Int) : Fz c R (.int i) (.int i)
  | str (x : Str) : x.length ≤ sizeLine → Fz c R (.str x) (.str x)
  | tup {a : Addr} {xs : List V} {ds : List D} : SqT c.K R a xs → xs.length ≤ sizeLine → FzA c R xs ds → Fz c R (.ref a) (.tup ds)
  | lst {a : Addr} {xs : List V} {ds : List D} : R a = some (.lst xs) → xs.length ≤ sizeLine → FzA c R xs ds → Fz c R (.ref a) (.lst ds)
  | dk {a : Addr} {kvs : List (Key × V)} {ds : List D} : Rd R a (.dK kvs) → kvs.length ≤ sizeLine → FzA c R (kvs.map Prod.snd) ds → Fz c R (.ref a) (.dk (kvs.map Prod.fst) ds)
  | ins {a C dx : Addr} {fs : List (Str × V)} {ds : List D} : Rd R a (.ins C dx fs) → FzA c R (fs.map Prod.snd) ds → Fz c R (.ref a) (.ins C (fs.map Prod.fst) ds)
  | deck : Fz c R (.ref c.dk) .deck
inductive FzA (c : Cn) (R : Hp) : List V → List D → Prop
  | nil : FzA c R [] []
  | cons {v : V} {vs : List V} {d : D} {ds : List D} : Fz c R v d → FzA c R vs ds → FzA c R (v :: vs) (d :: ds)
end
mutual
theorem Fz.mono {c : Cn} {R R' : Hp} (k : Le R R') : ∀ {v : V} {d : D}, Fz c R v d → Fz c R' v d
  | _, _, .non => .non
  | _, _, .bl b => .bl b
  | _, _, .int i => .int i
  | _, _, .str x h => .str x h
  | _, _, .tup h z q => .tup (k.sqT h) z (FzA.mono k q)
  | _, _, .lst h z q => .lst (k.2 _ _ h) z (FzA.mono k q)
  | _, _, .dk h z q => .dk (k.1 _ _ h) z (FzA.mono k q)
  | _, _, .ins h q => .ins (k.1 _ _ h) (FzA.mono k q)
  | _, _, .deck => .deck
theorem FzA.mono {c : Cn} {R R' : Hp} (k : Le R R') : ∀ {v : List V} {d : List D}, FzA c R v d → FzA c R' v d
  | _, _, .nil => .nil
  | _, _, .cons h q => .cons (Fz.mono k h) (FzA.mono k q)
end
section
variable {c : Cn} {R : Hp}
theorem FzA.len : ∀ {vs : List V} {ds : List D}, FzA c R vs ds → vs.length = ds.length
  | _, _, .nil => rfl
  | _, _, .cons _ q => congrArg (· + 1) (FzA.len q)
theorem FzA.get : ∀ {vs : List V} {ds : List D} {i : Nat} {d : D}, FzA c R vs ds → ds[i]? = some d → ∃ v, vs[i]? = some v ∧ Fz c R v d
  | _, _, _, _, .nil, e => by simp at e
  | _, _, 0, _, .cons h _, e => by simp at e; subst e; exact ⟨_, rfl, h⟩
  | _, _, i + 1, d, .cons _ q, e => by
    obtain ⟨v, a, b⟩ := FzA.get (i := i) (d := d) q (by simpa using e)
    exact ⟨v, by simpa using a, b⟩
theorem FzA.getV : ∀ {vs : List V} {ds : List D} {i : Nat} {v : V}, FzA c R vs ds → vs[i]? = some v → ∃ d, ds[i]? = some d ∧ Fz c R v d
  | _, _, _, _, .nil, e => by simp at e
  | _, _, 0, _, .cons h _, e => by simp at e; subst e; exact ⟨_, rfl, h⟩
  | _, _, i + 1, d, .cons _ q, e => by
    obtain ⟨v, a, b⟩ := FzA.getV (i := i) q (by simpa using e)
    exact ⟨v, by simpa using a, b⟩
theorem FzA.app : ∀ {vs ws : List V} {ds es : List D}, FzA c R vs ds → FzA c R ws es → FzA c R (vs ++ ws) (ds ++ es)
  | _, _, _, _, .nil, s => s
  | _, _, _, _, .cons h q, s => .cons h (FzA.app q s)
theorem FzA.take : ∀ {vs : List V} {ds : List D} (n : Nat), FzA c R vs ds → FzA c R (vs.take n) (ds.take n)
  | _, _, 0, _ => .nil
  | _, _, _ + 1, .nil => .nil
  | _, _, n + 1, .cons h q => .cons h (FzA.take n q)
theorem FzA.drop : ∀ {vs : List V} {ds : List D} (n : Nat), FzA c R vs ds → FzA c R (vs.drop n) (ds.drop n)
  | _, _, 0, r => r
  | _, _, _ + 1, .nil => .nil
  | _, _, n + 1, .cons _ q => FzA.drop n q
theorem FzA.rev : ∀ {ws : List V} {ds : List D}, FzA c R ws ds → FzA c R ws.reverse ds.reverse
  | _, _, .nil => .nil
  | _, _, .cons a b => by
    rw [List.reverse_cons, List.reverse_cons]
    exact (FzA.rev b).app (.cons a .nil)
theorem FzA.snoc_inv : ∀ {ws : List V} {ds : List D} {d : D}, FzA c R ws (ds ++ [d]) → ∃ ws0 w, ws = ws0 ++ [w] ∧ FzA c R ws0 ds ∧ Fz c R w d
  | _, [], d, h => by
    cases h with
    | cons a b => cases b; exact ⟨[], _, rfl, .nil, a⟩
  | _, e :: r, d, h => by
    cases h with
    | @cons v vs _ _ a b =>
      obtain ⟨ws0, w, rfl, h1, h2⟩ := FzA.snoc_inv (ds := r) b
      exact ⟨v :: ws0, w, rfl, .cons a h1, h2⟩
theorem FzA.set : ∀ {vs : List V} {ds : List D} (i : Nat) {v : V} {d : D}, FzA c R vs ds → Fz c R v d → FzA c R (vs.set i v) (ds.set i d)
  | _, _, _, _, _, .nil, _ => .nil
  | _, _, 0, _, _, .cons _ q, h => .cons h q
  | _, _, i + 1, _, _, .cons p q, h => .cons p (FzA.set i q h)
theorem Fz.tup_inv {v : V} {ds : List D} (h : Fz c R v (.tup ds)) : ∃ a xs, v = .ref a ∧ SqT c.K R a xs ∧ xs.length ≤ sizeLine ∧ FzA c R xs ds := by
  cases h with | tup a b d => exact ⟨_, _, rfl, a, b, d⟩
theorem Fz.lst_inv {v : V} {ds : List D} (h : Fz c R v (.lst ds)) : ∃ a xs, v = .ref a ∧ R a = some (.lst xs) ∧ xs.length ≤ sizeLine ∧ FzA c R xs ds := by
  cases h with | lst a b d => exact ⟨_, _, rfl, a, b, d⟩
theorem Fz.str_inv {v : V} {x : Str} (h : Fz c R v (.str x)) : v = .str x ∧ x.length ≤ sizeLine := by
  cases h with | str _ z => exact ⟨rfl, z⟩
theorem Fz.int_inv {v : V} {i : Int} (h : Fz c R v (.int i)) : v = .int i := by cases h; rfl
theorem Fz.bl_inv {v : V} {b : Bool} (h : Fz c R v (.bl b)) : v = .bl b := by cases h; rfl
theorem Fz.non_inv {v : V} (h : Fz c R v .non) : v = .non := by cases h; rfl
end
/-- what an owned object holds -/
inductive FzO (c : Cn) (R : Hp) : HO → D → Prop
  | lst {xs : List V} {ds : List D} : xs.length ≤ sizeLine → FzA c R xs ds → FzO c R (.lst xs) (.lst ds)
  | dk {kvs : List (Key × V)} {ds : List D} : kvs.length ≤ sizeLine → FzA c R (kvs.map Prod.snd) ds → FzO c R (.dK kvs) (.dk (kvs.map Prod.fst) ds)
theorem FzO.mono {c : Cn} {R R' : Hp} (k : Le R R') {o : HO} {d : D} (h : FzO c R o d) : FzO c R' o d := by
  cases h with
  | lst z q => exact .lst z (q.mono k)
  | dk z q => exact .dk z (q.mono k)
theorem FzO.fz {c : Cn} {R : Hp} {o : HO} {d : D} {a : Addr} (h : FzO c R o d) (e : R a = some o) : Fz c R (.ref a) d := by
  cases h with
  | lst z q => exact .lst e z q
  | dk z q => exact .dk (.inl e) z q

/-- a world beside the data: objects that are changed by some calls, by a number -/
structure Wd where
  dom : List Addr
  st : Nat → Hp → Prop
  only : ∀ n H H', st n H → (∀ a ∈ dom, H' a = H a) → st n H'
  there : ∀ n H, st n H → ∀ a ∈ dom, H a ≠ none
structure Gm where
  c : Cn
  W : Wd
  ow : List Nat
  H0 : Hp
  R0 : Hp
structure HpOk (Γ : Gm) (R H : Hp) (n : Nat) : Prop where
  same : Same R H
  dj : ∀ a ∈ Γ.W.dom, R a = none
  d0 : ∀ a ∈ Γ.W.dom, Γ.H0 a ≠ none
  wd : Γ.W.st n H
  keep : Keep Γ.W.dom Γ.H0 H
  r0 : Same Γ.R0 R
  new : ∀ a, R a ≠ none → Γ.R0 a ≠ none ∨ Γ.H0 a = none
abbrev Sd := List (Option D)
structure Rp (Γ : Gm) (R H : Hp) (σ : L2.St) (ρ : Sd) (n : Nat) : Prop where
  len : σ.length = ρ.length
  fz : ∀ i d, i ∉ Γ.ow → ρ[i]? = some (some d) → ∃ v, σ[i]? = some (some v) ∧ Fz Γ.c R v d
  own : ∀ i d, i ∈ Γ.ow → ρ[i]? = some (some d) → ∃ a o, σ[i]? = some (some (.ref a)) ∧ H a = some o ∧ R a = none ∧ Γ.H0 a = none ∧ FzO Γ.c R o d
  dist : ∀ i j a d e, i ∈ Γ.ow → j ∈ Γ.ow → ρ[i]? = some (some d) → ρ[j]? = some (some e) → σ[i]? = some (some (.ref a)) → σ[j]? = some (some (.ref a)) → i = j
  hp : HpOk Γ R H n
section
variable {Γ : Gm} {R R' H H' : Hp} {σ : L2.St} {ρ : Sd} {n n' : Nat}
theorem Keep.nn {D : List Addr} {H H' : Hp} {a : Addr} (k : Keep D H H') (hd : ∀ b ∈ D, H' b ≠ Option.none) (h : H' a = Option.none) : H a = Option.none := by
  cases q : H a with
  | none => rfl
  | some o =>
    by_cases m : a ∈ D
    · exact absurd h (hd a m)
    · rw [k a o q m] at h; cases h
theorem HpOk.nn (h : HpOk Γ R H n) {a : Addr} (e : H a = none) : Γ.H0 a = none := Keep.nn h.keep (Γ.W.there n H h.wd) e
/-- a new frozen object -/
theorem HpOk.lay {p : Addr} {o : HO} (h : HpOk Γ R H n) (hp : H p = none) : HpOk Γ (upd R p o) (upd H p o) n := by
  have hRp : R p = none := h.same.free hp
  have hpd : p ∉ Γ.W.dom := fun m => Γ.W.there n H h.wd p m hp
  refine ⟨fun a u e => ?_, fun a m => ?_, h.d0, ?_, h.keep.new hp, h.r0.trans (same_new hRp _), fun a e => ?_⟩
  · by_cases q : a = p
    · subst q; rw [upd_same] at e; cases e; exact upd_same
    · rw [upd_ne q] at e ⊢; exact h.same _ _ e
  · have : a ≠ p := fun q => hpd (q ▸ m)
    rw [upd_ne this]; exact h.dj a m
  · refine Γ.W.only n H _ h.wd fun a m => ?_
    have : a ≠ p := fun q => hpd (q ▸ m)
    rw [upd_ne this]
  · by_cases q : a = p
    · subst q; exact .inr (h.nn hp)
    · rw [upd_ne q] at e; exact h.new a e
/-- a new object that is not frozen -/
theorem HpOk.lay0 {p : Addr} {o : HO} (h : HpOk Γ R H n) (hp : H p = none) : HpOk Γ R (upd H p o) n := by
  have hRp : R p = none := h.same.free hp
  have hpd : p ∉ Γ.W.dom := fun m => Γ.W.there n H h.wd p m hp
  refine ⟨h.same.new hp, h.dj, h.d0, ?_, h.keep.new hp, h.r0, h.new⟩
  refine Γ.W.only n H _ h.wd fun a m => ?_
  have : a ≠ p := fun q => hpd (q ▸ m)
  rw [upd_ne this]
/-- a younger object that is not frozen is changed -/
theorem HpOk.mut {p : Addr} {o : HO} (h : HpOk Γ R H n) (hR : R p = none) (h0 : Γ.H0 p = none) : HpOk Γ R (upd H p o) n := by
  have hpd : p ∉ Γ.W.dom := fun m => h.d0 p m h0
  refine ⟨h.same.mutN hR, h.dj, h.d0, ?_, h.keep.mutN h0, h.r0, h.new⟩
  refine Γ.W.only n H _ h.wd fun a m => ?_
  have : a ≠ p := fun q => hpd (q ▸ m)
  rw [upd_ne this]
theorem Rp.lay {p : Addr} {o : HO} (h : Rp Γ R H σ ρ n) (hp : H p = none) : Rp Γ (upd R p o) (upd H p o) σ ρ n := by
  have hRp : R p = none := h.hp.same.free hp
  have S := same_new hRp o
  refine ⟨h.len, fun i d hi e => ?_, fun i d hi e => ?_, h.dist, h.hp.lay hp⟩
  · obtain ⟨v, h1, h2⟩ := h.fz i d hi e
    exact ⟨v, h1, h2.mono S.le⟩
  · obtain ⟨a, u, h1, h2, h3, h4, h5⟩ := h.own i d hi e
    have q : a ≠ p := ne_of_none h2 hp
    exact ⟨a, u, h1, by rw [upd_ne q]; exact h2, by rw [upd_ne q]; exact h3, h4, h5.mono S.le⟩
theorem Rp.lay0 {p : Addr} {o : HO} (h : Rp Γ R H σ ρ n) (hp : H p = none) : Rp Γ R (upd H p o) σ ρ n := by
  refine ⟨h.len, h.fz, fun i d hi e => ?_, h.dist, h.hp.lay0 hp⟩
  obtain ⟨a, u, h1, h2, h3, h4, h5⟩ := h.own i d hi e
  have q : a ≠ p := ne_of_none h2 hp
  exact ⟨a, u, h1, by rw [upd_ne q]; exact h2, h3, h4, h5⟩
/-- the heap went on (a call) -/
theorem HpOk.then (h : HpOk Γ R H n) (k : HpOk ⟨Γ.c, Γ.W, [], H, R⟩ R' H' n') : HpOk Γ R' H' n' := by
  refine ⟨k.same, k.dj, h.d0, k.wd, h.keep.trans k.keep, h.r0.trans k.r0, fun a e => ?_⟩
  rcases k.new a e with q | q
  · exact h.new a q
  · exact .inr (h.nn q)
theorem HpOk.enter (h : HpOk Γ R H n) : HpOk ⟨Γ.c, Γ.W, [], H, R⟩ R H n :=
  ⟨h.same, h.dj, Γ.W.there n H h.wd, h.wd, Keep.refl _ _, Same.refl _, fun _ e => .inl e⟩
theorem Rp.then (h : Rp Γ R H σ ρ n) (k : HpOk ⟨Γ.c, Γ.W, [], H, R⟩ R' H' n') : Rp Γ R' H' σ ρ n' := by
  refine ⟨h.len, fun i d hi e => ?_, fun i d hi e => ?_, h.dist, h.hp.then k⟩
  · obtain ⟨v, h1, h2⟩ := h.fz i d hi e
    exact ⟨v, h1, h2.mono k.r0.le⟩
  · obtain ⟨a, u, h1, h2, h3, h4, h5⟩ := h.own i d hi e
    have hd : a ∉ Γ.W.dom := fun m => h.hp.d0 a m h4
    refine ⟨a, u, h1, k.keep a u h2 hd, ?_, h4, h5.mono k.r0.le⟩
    cases q : R' a with
    | none => rfl
    | some z =>
      rcases k.new a (by rw [q]; exact fun z => nomatch z) with z | z
      · exact absurd h3 z
      · rw [show H a = none from z] at h2; cases h2
theorem Rp.set {i : Nat} {v : V} {d : D} (h : Rp Γ R H σ ρ n) (hi : i ∉ Γ.ow) (hv : Fz Γ.c R v d) : Rp Γ R H (σ.set i (some v)) (ρ.set i (some d)) n := by
  refine ⟨by rw [List.length_set, List.length_set]; exact h.len, fun j e hj q => ?_, fun j e hj q => ?_, fun j k a d1 d2 hj hk q1 q2 q3 q4 => ?_, h.hp⟩
  · by_cases z : j = i
    · subst z
      have hl : j < ρ.length := by
        have := (List.getElem?_eq_some_iff.mp q).1
        rwa [List.length_set] at this
      rw [List.getElem?_set_self hl] at q
      cases q
      exact ⟨v, List.getElem?_set_self (by rw [h.len]; exact hl), hv⟩
    · rw [List.getElem?_set_ne (Ne.symm z)] at q ⊢
      exact h.fz j e hj q
  · have z : j ≠ i := fun z => hi (z ▸ hj)
    rw [List.getElem?_set_ne (Ne.symm z)] at q ⊢
    exact h.own j e hj q
  · have z1 : j ≠ i := fun z => hi (z ▸ hj)
    have z2 : k ≠ i := fun z => hi (z ▸ hk)
    rw [List.getElem?_set_ne (Ne.symm z1)] at q1 q3
    rw [List.getElem?_set_ne (Ne.symm z2)] at q2 q4
    exact h.dist j k a d1 d2 hj hk q1 q2 q3 q4
/-- a piece of the way: nothing but the world's objects changed, what is frozen anew is new -/
structure Go (Γ : Gm) (R H R' H' : Hp) : Prop where
  same : Same R R'
  keep : Keep Γ.W.dom H H'
  new : ∀ a, R' a ≠ none → R a ≠ none ∨ H a = none
  nn : ∀ a, H' a = none → H a = none
theorem Go.refl (Γ : Gm) (R H : Hp) : Go Γ R H R H := ⟨Same.refl _, Keep.refl _ _, fun _ e => .inl e, fun _ e => e⟩
theorem Go.trans {R1 H1 R2 H2 : Hp} (g : Go Γ R H R1 H1) (k : Go Γ R1 H1 R2 H2) : Go Γ R H R2 H2 :=
  ⟨g.same.trans k.same, g.keep.trans k.keep, fun a e => (k.new a e).elim (g.new a) fun z => .inr (g.nn a z), fun a e => g.nn a (k.nn a e)⟩
theorem Go.le (g : Go Γ R H R' H') : Le R R' := g.same.le
theorem Rp.go {p : Addr} {o : HO} (h : Rp Γ R H σ ρ n) (hp : H p = none) : Go Γ R H (upd R p o) (upd H p o) := by
  have hRp : R p = none := h.hp.same.free hp
  refine ⟨same_new hRp o, (Keep.refl _ _).new hp, fun a e => ?_, fun a e => ?_⟩
  · by_cases q : a = p
    · subst q; exact .inr hp
    · rw [upd_ne q] at e; exact .inl e
  · by_cases q : a = p
    · subst q; exact hp
    · rw [upd_ne q] at e; exact e
theorem HpOk.go (k : HpOk ⟨Γ.c, Γ.W, [], H, R⟩ R' H' n') : Go Γ R H R' H' := ⟨k.r0, k.keep, k.new, fun a e => HpOk.nn k e⟩
/-- a slot gets an owned object -/
theorem Rp.setO {i : Nat} {a : Addr} {o : HO} {d : D} (h : Rp Γ R H σ ρ n) (hi : i ∈ Γ.ow) (ha : H a = some o) (hR : R a = none) (h0 : Γ.H0 a = none) (hv : FzO Γ.c R o d)
    (hn : ∀ j e, j ∈ Γ.ow → j ≠ i → ρ[j]? = some (some e) → σ[j]? ≠ some (some (.ref a))) : Rp Γ R H (σ.set i (some (.ref a))) (ρ.set i (some d)) n := by
  refine ⟨by rw [List.length_set, List.length_set]; exact h.len, fun j e hj q => ?_, fun j e hj q => ?_, fun j k b d1 d2 hj hk q1 q2 q3 q4 => ?_, h.hp⟩
  · have z : j ≠ i := fun z => hj (z ▸ hi)
    rw [List.getElem?_set_ne (Ne.symm z)] at q ⊢
    exact h.fz j e hj q
  · by_cases z : j = i
    · subst z
      have hl : j < ρ.length := by
        have := (List.getElem?_eq_some_iff.mp q).1
        rwa [List.length_set] at this
      rw [List.getElem?_set_self hl] at q
      cases q
      exact ⟨a, o, List.getElem?_set_self (by rw [h.len]; exact hl), ha, hR, h0, hv⟩
    · rw [List.getElem?_set_ne (Ne.symm z)] at q ⊢
      exact h.own j e hj q
  · by_cases z1 : j = i
    · by_cases z2 : k = i
      · rw [z1, z2]
      · subst z1
        rw [List.getElem?_set_ne (Ne.symm z2)] at q2 q4
        have hl : j < σ.length := by
          have := (List.getElem?_eq_some_iff.mp q3).1
          rwa [List.length_set] at this
        rw [List.getElem?_set_self hl] at q3
        cases q3
        exact absurd q4 (hn k d2 hk z2 q2)
    · rw [List.getElem?_set_ne (Ne.symm z1)] at q1 q3
      by_cases z2 : k = i
      · subst z2
        have hl : k < σ.length := by
          have := (List.getElem?_eq_some_iff.mp q4).1
          rwa [List.length_set] at this
        rw [List.getElem?_set_self hl] at q4
        cases q4
        exact absurd q3 (hn j d1 hj z1 q1)
      · rw [List.getElem?_set_ne (Ne.symm z2)] at q2 q4
        exact h.dist j k b d1 d2 hj hk q1 q2 q3 q4
/-- an owned object is changed -/
theorem Rp.mut {i : Nat} {a : Addr} {o : HO} {d d' : D} (h : Rp Γ R H σ ρ n) (hi : i ∈ Γ.ow) (hd : ρ[i]? = some (some d)) (hs : σ[i]? = some (some (.ref a))) (hv : FzO Γ.c R o d') : Rp Γ R (upd H a o) σ (ρ.set i (some d')) n := by
  obtain ⟨a', u, h1, h2, h3, h4, h5⟩ := h.own i d hi hd
  rw [hs] at h1; cases h1
  refine ⟨by rw [List.length_set]; exact h.len, fun j e hj q => ?_, fun j e hj q => ?_, fun j k b d1 d2 hj hk q1 q2 q3 q4 => ?_, h.hp.mut h3 h4⟩
  · have z : j ≠ i := fun z => hj (z ▸ hi)
    rw [List.getElem?_set_ne (Ne.symm z)] at q
    exact h.fz j e hj q
  · by_cases z : j = i
    · subst z
      have hl : j < ρ.length := by
        have := (List.getElem?_eq_some_iff.mp q).1
        rwa [List.length_set] at this
      rw [List.getElem?_set_self hl] at q
      cases q
      exact ⟨a, o, hs, upd_same, h3, h4, hv⟩
    · rw [List.getElem?_set_ne (Ne.symm z)] at q
      obtain ⟨b, u', g1, g2, g3, g4, g5⟩ := h.own j e hj q
      have : b ≠ a := fun w => z (h.dist j i a e d hj hi q hd (w ▸ g1) hs)
      exact ⟨b, u', g1, by rw [upd_ne this]; exact g2, g3, g4, g5⟩
  · have ex : ∀ m e, m ∈ Γ.ow → (ρ.set i (some d'))[m]? = some (some e) → ∃ e', ρ[m]? = some (some e') := fun m e hm q => by
      by_cases z : m = i
      · exact ⟨d, z ▸ hd⟩
      · rw [List.getElem?_set_ne (Ne.symm z)] at q; exact ⟨e, q⟩
    obtain ⟨e1, g1⟩ := ex j d1 hj q1
    obtain ⟨e2, g2⟩ := ex k d2 hk q2
    exact h.dist j k b e1 e2 hj hk g1 g2 q3 q4
end
end Sh

set_option Elab.async false
set_option linter.all false
set_option maxRecDepth 100000
/-! expressions by data -/
namespace Sh
open PySem L2 Nf
abbrev M (α : Type) := Nat → Option (α × Nat)
def Mp {α : Type} (a : α) : M α := fun n => some (a, n)
def Mb {α β : Type} (x : M α) (f : α → M β) : M β := fun n => match x n with
  | none => none
  | some (a, n') => f a n'
def Mo {α : Type} (o : Option α) : M α := fun n => o.map (·, n)
theorem Mb_some {α β : Type} {x : M α} {f : α → M β} {n n' : Nat} {b : β} (h : Mb x f n = some (b, n')) : ∃ a m, x n = some (a, m) ∧ f a m = some (b, n') := by
  unfold Mb at h
  cases e : x n with
  | none => rw [e] at h; cases h
  | some p => obtain ⟨a, m⟩ := p; rw [e] at h; exact ⟨a, m, rfl, h⟩
theorem Mo_some {α : Type} {o : Option α} {n n' : Nat} {b : α} (h : Mo o n = some (b, n')) : o = some b ∧ n' = n := by
  unfold Mo at h
  cases o with
  | none => cases h
  | some a => cases h; exact ⟨rfl, rfl⟩
theorem ite_some {α : Type} {c : Prop} [Decidable c] {x : Option α} {a : α} (h : (if c then x else none) = some a) : c ∧ x = some a := by
  by_cases hc : c
  · rw [if_pos hc] at h; exact ⟨hc, h⟩
  · rw [if_neg hc] at h; cases h
theorem Mb_eq {α β : Type} {x : M α} {f : α → M β} {n n' : Nat} {a : α} (h : x n = some (a, n')) : Mb x f n = f a n' := by unfold Mb; rw [h]
abbrev Ed := Sd → M D
abbrev Ad := Sd → M (List D)
abbrev Td := Sd → M Bool
def up (Γ : Gm) (t : Ed) : TE := fun σ H Q => ∃ R ρ n r n', Rp Γ R H σ ρ n ∧ t ρ n = some (r, n') ∧ ∀ v R' H', Rp Γ R' H' σ ρ n' → Go Γ R H R' H' → Fz Γ.c R' v r → Q v H'
def upA (Γ : Gm) (t : Ad) : TA := fun σ H Q => ∃ R ρ n r n', Rp Γ R H σ ρ n ∧ t ρ n = some (r, n') ∧ ∀ v R' H', Rp Γ R' H' σ ρ n' → Go Γ R H R' H' → FzA Γ.c R' v r → Q v H'
def upT (Γ : Gm) (t : Td) : TT := fun σ H Q => ∃ R ρ n r n', Rp Γ R H σ ρ n ∧ t ρ n = some (r, n') ∧ ∀ R' H', Rp Γ R' H' σ ρ n' → Go Γ R H R' H' → Q r H'
section
variable {X : Cx} {Γ : Gm}
theorem PE.wk {e : Expr} {t t' : TE} (h : PE X e t) (k : ∀ σ H Q, t' σ H Q → t σ H Q) : PE X e t' := ⟨fun pins s σ H Q I q => h.run pins s σ H Q I (k σ H Q q)⟩
theorem PT.wk {e : Expr} {t t' : TT} (h : PT X e t) (k : ∀ σ H Q, t' σ H Q → t σ H Q) : PT X e t' := ⟨fun pins s σ H Q I q => h.run pins s σ H Q I (k σ H Q q)⟩
theorem PW.wk {e : Expr} {t t' : TT} (h : PW X e t) (k : ∀ σ H Q, t' σ H Q → t σ H Q) : PW X e t' := ⟨fun wh pins s σ H Q I q => h.run wh pins s σ H Q I (k σ H Q q)⟩
theorem PA.wk {e : List Expr} {t t' : TA} (h : PA X e t) (k : ∀ σ H Q, t' σ H Q → t σ H Q) : PA X e t' := ⟨fun pos pins s σ H Q I q => h.run pos pins s σ H Q I (k σ H Q q)⟩
theorem PS.wk {e : Stmt} {t t' : TS} (h : PS X e t) (k : ∀ D σ H, t' D σ H → t D σ H) : PS X e t' := ⟨fun pins s σ H Q I q => h.run pins s σ H Q I (k Q σ H q)⟩
theorem PSs.wk {e : List Stmt} {t t' : TS} (h : PSs X e t) (k : ∀ D σ H, t' D σ H → t D σ H) : PSs X e t' := ⟨fun pins s σ H Q I q => h.run pins s σ H Q I (k Q σ H q)⟩
structure DE (X : Cx) (Γ : Gm) (e : Expr) (t : Ed) : Prop where
  p : PE X e (up Γ t)
structure DT (X : Cx) (Γ : Gm) (e : Expr) (t : Td) : Prop where
  p : PT X e (upT Γ t)
structure DW (X : Cx) (Γ : Gm) (e : Expr) (t : Td) : Prop where
  p : PW X e (upT Γ t)
structure DA (X : Cx) (Γ : Gm) (es : List Expr) (t : Ad) : Prop where
  p : PA X es (upA Γ t)
/-! names, constants -/
def eVar (i : Nat) : Ed := fun ρ n => match ρ[i]? with
  | some (some d) => some (d, n)
  | _ => none
def eC (d : D) : Ed := fun _ n => some (d, n)
theorem eVar_some {i : Nat} {ρ : Sd} {n n' : Nat} {r : D} (h : eVar i ρ n = some (r, n')) : ρ[i]? = some (some r) ∧ n' = n := by
  unfold eVar at h
  split at h
  · rename_i d e; cases h; exact ⟨e, rfl⟩
  · cases h
theorem d_var {i : Nat} {e : Expr} (h : PE X e (tVar i)) (hi' : Γ.ow.contains i = false := by rfl) : DE X Γ e (eVar i) := have hi := nmem_of hi'; ⟨PE.wk h fun σ H Q ⟨R, ρ, n, r, n', rp, e, q⟩ => by
  obtain ⟨e1, rfl⟩ := eVar_some e
  obtain ⟨v, h1, h2⟩ := rp.fz i r hi e1
  exact ⟨v, h1, q v R H rp (Go.refl _ _ _) h2⟩⟩
theorem d_c {e : Expr} {v : V} {d : D} (h : PE X e (tC v)) (hv : ∀ R, Fz Γ.c R v d) : DE X Γ e (eC d) := ⟨PE.wk h fun σ H Q ⟨R, ρ, n, r, n', rp, e, q⟩ => by
  cases e
  exact q v R H rp (Go.refl _ _ _) (hv R)⟩
theorem d_int {i j pos} : DE X Γ (.Constant (.int i) j pos) (eC (.int i)) := d_c pe_int fun _ => .int i
theorem d_bl {i j pos} : DE X Γ (.Constant (.bool i) j pos) (eC (.bl i)) := d_c pe_bl fun _ => .bl i
theorem d_non {j pos} : DE X Γ (.Constant .none j pos) (eC .non) := d_c pe_non fun _ => .non
theorem d_str {x j pos} (hz : x.length ≤ sizeLine := by decide +kernel) : DE X Γ (.Constant (.str x) j pos) (eC (.str x)) := d_c pe_str fun _ => .str x hz
/-! arguments -/
def aNil : Ad := fun _ n => some ([], n)
def aCons (t : Ed) (u : Ad) : Ad := fun ρ => Mb (t ρ) fun x => Mb (u ρ) fun xs => Mp (x :: xs)
theorem da_nil : DA X Γ [] aNil := ⟨PA.wk pa_nil fun σ H Q ⟨R, ρ, n, r, n', rp, e, q⟩ => by
  cases e
  exact q [] R H rp (Go.refl _ _ _) .nil⟩
theorem da_cons {e : Expr} {es : List Expr} {t : Ed} {u : Ad} (ha : DE X Γ e t) (hr : DA X Γ es u) (hs : starEach (e :: es) X.env = (false, eval e X.env) :: starEach es X.env := by rfl) : DA X Γ (e :: es) (aCons t u) :=
  ⟨PA.wk (pa_cons ha.p hr.p hs) fun σ H Q ⟨R, ρ, n, r, n', rp, e, q⟩ => by
    obtain ⟨x, m, e1, e⟩ := Mb_some e
    obtain ⟨xs, m2, e2, e⟩ := Mb_some e
    cases e
    refine ⟨R, ρ, n, x, m, rp, e1, fun v R1 H1 rp1 S1 z1 => ⟨R1, ρ, m, xs, _, rp1, e2, fun vs R2 H2 rp2 S2 z2 => ?_⟩⟩
    exact q _ R2 H2 rp2 (S1.trans S2) (.cons (z1.mono S2.le) z2)⟩
theorem aCons_len {t : Ed} {u : Ad} {k : Nat} (h : ∀ ρ n r n', u ρ n = some (r, n') → r.length = k) : ∀ ρ n r n', aCons t u ρ n = some (r, n') → r.length = k + 1 := fun ρ n r n' e => by
  obtain ⟨x, m, e1, e⟩ := Mb_some e
  obtain ⟨xs, m2, e2, e⟩ := Mb_some e
  cases e
  rw [List.length_cons, h _ _ _ _ e2]
theorem aNil_len : ∀ ρ n r n', aNil ρ n = some (r, n') → r.length = 0 := fun ρ n r n' e => by cases e; rfl
/-! operators -/
def e1 (f : D → Option D) (a : Ed) : Ed := fun ρ => Mb (a ρ) fun x => Mo (f x)
def e2 (f : D → D → Option D) (a b : Ed) : Ed := fun ρ => Mb (a ρ) fun x => Mb (b ρ) fun y => Mo (f x y)
/-- a reading by values gives what the data say -/
def Gives (Γ : Gm) (R H : Hp) (d : D) (r : Hp → VK → Prop) : Prop := ∀ σ ρ n Q, Rp Γ R H σ ρ n → (∀ v R' H', Rp Γ R' H' σ ρ n → Go Γ R H R' H' → Fz Γ.c R' v d → Q v H') → r H Q
def Op2 (Γ : Gm) (r : R2) (f : D → D → Option D) : Prop := ∀ R H x y dx dy d, f dx dy = some d → Same R H → Fz Γ.c R x dx → Fz Γ.c R y dy → Gives Γ R H d (r x y)
theorem gives_c {R H : Hp} {d : D} {v : V} {r : Hp → VK → Prop} (hv : Fz Γ.c R v d) (h : ∀ Q : VK, Q v H → r H Q) : Gives Γ R H d r := fun σ ρ n Q rp q => h Q (q v R H rp (Go.refl _ _ _) hv)
/-- a new frozen object -/
theorem gives_new {R H : Hp} {d : D} {o : HO} {r : Hp → VK → Prop} (hv : ∀ p R', R' p = some o → Same R R' → Fz Γ.c R' (.ref p) d) (h : ∀ Q : VK, (∀ p, H p = none → Q (.ref p) (upd H p o)) → r H Q) : Gives Γ R H d r := fun σ ρ n Q rp q =>
  h Q fun p hp => q _ _ _ (rp.lay hp) (rp.go hp) (hv p _ upd_same (rp.go hp).same)
theorem d_op {a b : Expr} {ta tb : Ed} {op : Operator} {r : R2} {f : D → D → Option D} {pos : Pos} (ho : OpR X (binaryOp op) r) (hf : Op2 Γ r f) (ha : DE X Γ a ta) (hb : DE X Γ b tb) : DE X Γ (.BinOp a op b pos) (e2 f ta tb) :=
  ⟨PE.wk (pe_op ho ha.p hb.p) fun σ H Q ⟨R, ρ, n, r, n', rp, e, q⟩ => by
    obtain ⟨x, m, e1, e⟩ := Mb_some e
    obtain ⟨y, m2, e2, e⟩ := Mb_some e
    obtain ⟨ee, rfl⟩ := Mo_some e
    refine ⟨R, ρ, n, x, m, rp, e1, fun v R1 H1 rp1 S1 z1 => ⟨R1, ρ, m, y, _, rp1, e2, fun u R2 H2 rp2 S2 z2 => ?_⟩⟩
    exact hf R2 H2 v u x y r ee rp2.hp.same (z1.mono S2.le) z2 σ ρ _ Q rp2 fun w R3 H3 rp3 S3 z3 => q w R3 H3 rp3 ((S1.trans S2).trans S3) z3⟩
theorem d_cmp {a b : Expr} {ta tb : Ed} {op : CmpOp} {r : R2} {f : D → D → Option D} {pos : Pos} (ho : OpR X (compareOp op) r) (hf : Op2 Γ r f) (ha : DE X Γ a ta) (hb : DE X Γ b tb) (hm : behindInMarks op b = false) : DE X Γ (.Compare a [op] [b] pos) (e2 f ta tb) :=
  ⟨PE.wk (pe_cmpR ho ha.p hb.p hm) fun σ H Q ⟨R, ρ, n, r, n', rp, e, q⟩ => by
    obtain ⟨x, m, e1, e⟩ := Mb_some e
    obtain ⟨y, m2, e2, e⟩ := Mb_some e
    obtain ⟨ee, rfl⟩ := Mo_some e
    refine ⟨R, ρ, n, x, m, rp, e1, fun v R1 H1 rp1 S1 z1 => ⟨R1, ρ, m, y, _, rp1, e2, fun u R2 H2 rp2 S2 z2 => ?_⟩⟩
    exact hf R2 H2 v u x y r ee rp2.hp.same (z1.mono S2.le) z2 σ ρ _ Q rp2 fun w R3 H3 rp3 S3 z3 => q w R3 H3 rp3 ((S1.trans S2).trans S3) z3⟩
theorem d_un {a : Expr} {ta : Ed} {op : UnaryOp} {r : V → Hp → VK → Prop} {f : D → Option D} {pos : Pos} (ho : UnR X (unaryOp op) r) (hf : ∀ R H x dx d, f dx = some d → Same R H → Fz Γ.c R x dx → Gives Γ R H d (r x)) (ha : DE X Γ a ta) : DE X Γ (.UnaryOp op a pos) (e1 f ta) :=
  ⟨PE.wk (pe_un ho ha.p) fun σ H Q ⟨R, ρ, n, r, n', rp, e, q⟩ => by
    obtain ⟨x, m, e1, e⟩ := Mb_some e
    obtain ⟨ee, rfl⟩ := Mo_some e
    refine ⟨R, ρ, n, x, _, rp, e1, fun v R1 H1 rp1 S1 z1 => ?_⟩
    exact hf R1 H1 v x r ee rp1.hp.same z1 σ ρ _ Q rp1 fun w R3 H3 rp3 S3 z3 => q w R3 H3 rp3 (S1.trans S3) z3⟩
def fNeg : D → Option D
  | .int i => some (.int (-i))
  | _ => none
theorem d_neg {a : Expr} {ta : Ed} {pos : Pos} (ha : DE X Γ a ta) : DE X Γ (.UnaryOp .USub a pos) (e1 fNeg ta) := d_un un_neg (fun R H x dx d e _ z => by
  cases z with
  | int i => cases e; exact gives_c (.int _) fun Q q => ⟨i, rfl, q⟩
  | _ => cases e) ha
def fSub : D → D → Option D
  | .int i, .int j => some (.int (i - j))
  | _, _ => none
theorem d_sub {a b : Expr} {ta tb : Ed} {pos : Pos} (ha : DE X Γ a ta) (hb : DE X Γ b tb) : DE X Γ (.BinOp a .Sub b pos) (e2 fSub ta tb) := d_op op_sub (fun R H x y dx dy d e _ z1 z2 => by
  cases z1 with
  | int i => cases z2 with
    | int j => cases e; exact gives_c (.int _) fun Q q => ⟨i, j, rfl, rfl, q⟩
    | _ => cases e
  | _ => cases e) ha hb
def fMod : D → D → Option D
  | .int i, .int j => if 0 < j then some (.int (i % j)) else none
  | _, _ => none
theorem d_mod {a b : Expr} {ta tb : Ed} {pos : Pos} (ha : DE X Γ a ta) (hb : DE X Γ b tb) : DE X Γ (.BinOp a .Mod b pos) (e2 fMod ta tb) := d_op op_mod (fun R H x y dx dy d e _ z1 z2 => by
  cases z1 with
  | int i => cases z2 with
    | int j =>
      obtain ⟨hj, e⟩ := ite_some e
      cases e; exact gives_c (.int _) fun Q q => ⟨i, j, rfl, rfl, hj, q⟩
    | _ => cases e
  | _ => cases e) ha hb
def fDiv : D → D → Option D
  | .int i, .int j => if 0 < j ∧ j < 1073741824 then some (.int (i / j)) else none
  | _, _ => none
theorem d_div {a b : Expr} {ta tb : Ed} {pos : Pos} (ha : DE X Γ a ta) (hb : DE X Γ b tb) : DE X Γ (.BinOp a .FloorDiv b pos) (e2 fDiv ta tb) := d_op op_fdiv (fun R H x y dx dy d e _ z1 z2 => by
  cases z1 with
  | int i => cases z2 with
    | int j =>
      obtain ⟨hj, e⟩ := ite_some e
      cases e; exact gives_c (.int _) fun Q q => ⟨i, j, rfl, rfl, hj, q⟩
    | _ => cases e
  | _ => cases e) ha hb
end
end Sh

set_option Elab.async false
set_option linter.all false
set_option maxRecDepth 100000
namespace Sh
open PySem PySem.Spec PyProof.Rows L2
theorem op_mul_str {X : Cx} : OpR X (binaryOp .Mult) (fun x y H Q => ∃ z i, x = .str z ∧ y = .int i ∧ z.length ≤ 16 ∧ -(2 ^ 63 : Int) ≤ i ∧ i ≤ 1048576 ∧ Q (.str (Txt.mul z i)) H) := by
  intro pins s σ H x y v u Q I rx ry h
  obtain ⟨z, i, rfl, rfl, h1, h2, h3, q⟩ := h
  obtain ⟨t, rfl⟩ := rx
  obtain ⟨t2, rfl⟩ := ry
  exact PySem.W.KXi.mul rfl h1 h2 h3 fun t3 k _ _ => ⟨.str (Txt.mul z i), H, I.tok _, ⟨_, rfl⟩, q⟩
end Sh
namespace Sh
open PySem L2 Nf
section
variable {X : Cx} {Γ : Gm} {a b : Expr} {ta tb : Ed} {pos : Pos}
def szl {α : Type} (n : Nat) (x : α) : Option α := if n ≤ sizeLine then some x else none
theorem szl_some {α : Type} {n : Nat} {x y : α} (h : szl n x = some y) : n ≤ sizeLine ∧ x = y := by
  obtain ⟨a, b⟩ := ite_some h
  exact ⟨a, Option.some.inj b⟩
def fAdd : D → D → Option D
  | .int i, .int j => some (.int (i + j))
  | .str x, .str y => szl (x.length + y.length) (.str (x ++ y))
  | .lst x, .lst y => szl (x.length + y.length) (.lst (x ++ y))
  | .tup x, .tup y => szl (x.length + y.length) (.tup (x ++ y))
  | _, _ => none
theorem len_append (x y : Str) : (x ++ y).length = x.length + y.length := Array.size_append
theorem d_add (ha : DE X Γ a ta) (hb : DE X Γ b tb) (hK : X.K = Γ.c.K := by rfl) : DE X Γ (.BinOp a .Add b pos) (e2 fAdd ta tb) := by
  refine d_op (op_add.or (op_add_str.or (op_cat.or op_catA))) (fun R H x y dx dy d e S z1 z2 => ?_) ha hb
  cases z1 with
  | int i => cases z2 with
    | int j => cases e; exact gives_c (.int _) fun Q q => .inl ⟨i, j, rfl, rfl, q⟩
    | _ => cases e
  | str i h1 => cases z2 with
    | str j h2 =>
      obtain ⟨hz, rfl⟩ := szl_some e
      exact gives_c (.str _ (by rw [len_append]; exact hz)) fun Q q => .inr (.inl ⟨i, j, rfl, rfl, hz, q⟩)
    | _ => cases e
  | lst h1 l1 a1 => cases z2 with
    | lst h2 l2 a2 =>
      obtain ⟨hz, rfl⟩ := szl_some e
      rw [← a1.len, ← a2.len] at hz
      refine gives_new (o := .lst _) (fun p R' e' S' => .lst e' ?_ ((a1.app a2).mono S'.le)) fun Q q => .inr (.inr (.inl ⟨_, _, _, _, rfl, rfl, S _ _ h1, S _ _ h2, hz, q⟩))
      rw [List.length_append]; exact hz
    | _ => cases e
  | tup h1 l1 a1 => cases z2 with
    | tup h2 l2 a2 =>
      obtain ⟨hz, rfl⟩ := szl_some e
      rw [← a1.len, ← a2.len] at hz
      rw [hK]
      intro σ ρ n Q rp q
      refine .inr (.inr (.inr ⟨_, _, _, _, rfl, rfl, S.le.sqT h1, S.le.sqT h2, hz, fun e1 => ?_, fun _ e1 => ?_, fun _ _ p hp => ?_⟩))
      · subst e1
        cases a1
        exact q _ R H rp (Go.refl _ _ _) (.tup h2 l2 (by simpa using a2))
      · subst e1
        cases a2
        exact q _ R H rp (Go.refl _ _ _) (.tup h1 l1 (by simpa using a1))
      · exact q _ _ _ (rp.lay hp) (rp.go hp) (.tup (SqT.of upd_same) (by rw [List.length_append]; exact hz) ((a1.app a2).mono (rp.go hp).le))
    | _ => cases e
  | _ => cases e
def fMul : D → D → Option D
  | .int i, .int j => if (-(2 ^ 64) < i ∧ i < 2 ^ 64) ∨ (-(2 ^ 64) < j ∧ j < 2 ^ 64) then some (.int (i * j)) else none
  | .str x, .int i => if x.length ≤ 16 ∧ -(2 ^ 63 : Int) ≤ i ∧ i ≤ 1048576 ∧ (Txt.mul x i).length ≤ sizeLine then some (.str (Txt.mul x i)) else none
  | .lst x, .int k => if -(2 ^ 63 : Int) ≤ k ∧ k < 2 ^ 63 ∧ x.length * k.toNat ≤ sizeLine then some (.lst (List.replicate k.toNat x).flatten) else none
  | _, _ => none
theorem fzA_rep {c : Cn} {R : Hp} {vs : List V} {ds : List D} (h : FzA c R vs ds) : ∀ k : Nat, FzA c R (List.replicate k vs).flatten (List.replicate k ds).flatten
  | 0 => .nil
  | k + 1 => by
    rw [List.replicate_succ, List.replicate_succ, List.flatten_cons, List.flatten_cons]
    exact h.app (fzA_rep h k)
theorem d_mul (ha : DE X Γ a ta) (hb : DE X Γ b tb) : DE X Γ (.BinOp a .Mult b pos) (e2 fMul ta tb) := by
  refine d_op (op_mul.or (op_mul_str.or op_rep)) (fun R H x y dx dy d e S z1 z2 => ?_) ha hb
  cases z1 with
  | int i => cases z2 with
    | int j =>
      obtain ⟨hz, e⟩ := ite_some e
      cases e; exact gives_c (.int _) fun Q q => .inl ⟨i, j, rfl, rfl, hz, q⟩
    | _ => cases e
  | str i h1 => cases z2 with
    | int j =>
      obtain ⟨hz, e⟩ := ite_some e
      cases e
      exact gives_c (.str _ hz.2.2.2) fun Q q => .inr (.inl ⟨i, j, rfl, rfl, hz.1, hz.2.1, hz.2.2.1, q⟩)
    | _ => cases e
  | @lst l xs ds h1 l1 a1 => cases z2 with
    | int j =>
      obtain ⟨hz, e⟩ := ite_some e
      cases e
      rw [← a1.len] at hz
      refine gives_new (o := .lst _) (fun p R' e' S' => .lst e' ?_ ((fzA_rep a1 _).mono S'.le)) fun Q q => .inr (.inr ⟨_, _, _, rfl, rfl, S _ _ h1, hz.1, hz.2.1, hz.2.2, q⟩)
      rw [List.length_flatten, List.map_replicate, List.sum_replicate_nat, Nat.mul_comm]; exact hz.2.2
    | _ => cases e
  | _ => cases e
def fPow : D → D → Option D
  | .int i, .int j => if 0 ≤ j ∧ j ≤ 1000000 ∧ i.natAbs < 2 ^ 64 then some (.int (i ^ j.toNat)) else none
  | _, _ => none
theorem d_pow (ha : DE X Γ a ta) (hb : DE X Γ b tb) : DE X Γ (.BinOp a .Pow b pos) (e2 fPow ta tb) := d_op op_pow (fun R H x y dx dy d e _ z1 z2 => by
  cases z1 with
  | int i => cases z2 with
    | int j =>
      obtain ⟨hj, e⟩ := ite_some e
      cases e; exact gives_c (.int _) fun Q q => ⟨i, j, rfl, rfl, hj, q⟩
    | _ => cases e
  | _ => cases e) ha hb
/-! comparisons of numbers -/
def fI (p : Int → Int → Bool) : D → D → Option D
  | .int i, .int j => some (.bl (p i j))
  | _, _ => none
theorem op2I {p : Int → Int → Bool} : Op2 Γ (rI0 fun i j => .bl (p i j)) (fI p) := fun R H x y dx dy d e _ z1 z2 => by
  cases z1 with
  | int i => cases z2 with
    | int j => cases e; exact gives_c (.bl _) fun Q q => ⟨i, j, rfl, rfl, q⟩
    | _ => cases e
  | _ => cases e
def fLt := fI fun i j => decide (i < j)
def fLe := fI fun i j => decide (i ≤ j)
def fGt := fI fun i j => decide (j < i)
def fGe := fI fun i j => decide (j ≤ i)
theorem o2Lt : Op2 Γ (rI0 fun i j => .bl (decide (i < j))) fLt := op2I
theorem o2Le : Op2 Γ (rI0 fun i j => .bl (decide (i ≤ j))) fLe := op2I
theorem o2Gt : Op2 Γ (rI0 fun i j => .bl (decide (j < i))) fGt := op2I
theorem o2Ge : Op2 Γ (rI0 fun i j => .bl (decide (j ≤ i))) fGe := op2I
/-! is None -/
def isNon : D → Bool
  | .non => true
  | _ => false
theorem Fz.isNon {c : Cn} {R : Hp} {v : V} {d : D} (h : Fz c R v d) : decide (v = .non) = Sh.isNon d := by cases h <;> rfl
def fIs : D → D → Option D
  | x, .non => some (.bl (isNon x))
  | _, _ => none
def fIsNot : D → D → Option D
  | x, .non => some (.bl (!isNon x))
  | _, _ => none
theorem o2Is : Op2 Γ (fun x y H Q => y = .non ∧ Q (.bl (decide (x = .non))) H) fIs := fun R H x y dx dy d e _ z1 z2 => by
  cases z2 with
  | non =>
    have e' : some (D.bl (isNon dx)) = some d := by cases dx <;> exact e
    cases e'
    exact gives_c (.bl _) fun Q q => ⟨rfl, by rw [z1.isNon]; exact q⟩
  | _ => cases dx <;> cases e
theorem o2IsNot : Op2 Γ (fun x y H Q => y = .non ∧ Q (.bl (!decide (x = .non))) H) fIsNot := fun R H x y dx dy d e _ z1 z2 => by
  cases z2 with
  | non =>
    have e' : some (D.bl (!isNon dx)) = some d := by cases dx <;> exact e
    cases e'
    exact gives_c (.bl _) fun Q q => ⟨rfl, by rw [z1.isNon]; exact q⟩
  | _ => cases dx <;> cases e
/-! == and != -/
mutual
def D.py : D → Option PyData
  | .non => some .none
  | .bl b => some (.bool b)
  | .int i => some (.int i)
  | .str x => some (.str x)
  | .tup ds => (D.pyA ds).map .tuple
  | .lst ds => (D.pyA ds).map .list
  | _ => none
def D.pyA : List D → Option (List PyData)
  | [] => some []
  | d :: r => match D.py d, D.pyA r with
    | some p, some q => some (p :: q)
    | _, _ => none
end
mutual
theorem Fz.dp {c : Cn} {R H : Hp} (S : Same R H) : ∀ {v : V} {d : D} {p : PyData}, Fz c R v d → d.py = some p → Dp c.K H v p
  | _, _, _, .non, e => by cases (show some PyData.none = _ from e); exact .non
  | _, _, _, .bl b, e => by cases (show some (PyData.bool b) = _ from e); exact .bl b
  | _, _, _, .int i, e => by cases (show some (PyData.int i) = _ from e); exact .int i
  | _, _, _, .str x _, e => by cases (show some (PyData.str x) = _ from e); exact .str x
  | _, .tup ds, _, .tup h _ q, e => by
    simp only [D.py] at e
    obtain ⟨ps, e1, rfl⟩ := Option.map_eq_some_iff.mp e
    exact .tup (S.le.sqT h) (FzA.dp S q e1)
  | _, .lst ds, _, .lst h _ q, e => by
    simp only [D.py] at e
    obtain ⟨ps, e1, rfl⟩ := Option.map_eq_some_iff.mp e
    exact .lst (SqL.of (S _ _ h)) (FzA.dp S q e1)
  | _, _, _, .dk _ _ _, e => by simp [D.py] at e
  | _, _, _, .ins _ _, e => by simp [D.py] at e
  | _, _, _, .deck, e => by simp [D.py] at e
theorem FzA.dp {c : Cn} {R H : Hp} (S : Same R H) : ∀ {v : List V} {d : List D} {p : List PyData}, FzA c R v d → D.pyA d = some p → DpAll c.K H v p
  | _, _, _, .nil, e => by simp only [D.pyA] at e; cases e; exact .nil
  | _, _, _, .cons h q, e => by
    simp only [D.pyA] at e
    split at e
    · rename_i p ps e1 e2; cases e; exact .cons (Fz.dp S h e1) (FzA.dp S q e2)
    · cases e
end
/-- == of data: texts and scalars first -/
def D.eqb : D → D → Option Bool
  | .str x, .str y => some (decide (x = y))
  | .int i, .int j => some (decide (i = j))
  | x, y => match x.py, y.py with
    | some p, some q => if SeqAt.shaped p = true ∧ SeqAt.shaped q = true then some (PyData.eqv p q) else none
    | _, _ => none
def fEq (x y : D) : Option D := (D.eqb x y).map .bl
def fNe (x y : D) : Option D := (D.eqb x y).map fun b => .bl (!b)
theorem eqb_cases {x y : D} {b : Bool} (h : D.eqb x y = some b) : (∃ s t, x = .str s ∧ y = .str t ∧ b = decide (s = t)) ∨ (∃ i j, x = .int i ∧ y = .int j ∧ b = decide (i = j)) ∨
    ∃ p q, x.py = some p ∧ y.py = some q ∧ SeqAt.shaped p = true ∧ SeqAt.shaped q = true ∧ b = PyData.eqv p q := by
  unfold D.eqb at h
  split at h
  · cases h; exact .inl ⟨_, _, rfl, rfl, rfl⟩
  · cases h; exact .inr (.inl ⟨_, _, rfl, rfl, rfl⟩)
  · split at h
    · rename_i p q e1 e2
      obtain ⟨hs, e⟩ := ite_some h
      cases e
      exact .inr (.inr ⟨p, q, e1, e2, hs.1, hs.2, rfl⟩)
    · cases h
theorem o2Eq (hK : X.K = Γ.c.K) : Op2 Γ (fun x y H Q => rEq x y H Q ∨ rEqD X.K x y H Q) fEq := fun R H x y dx dy d e S z1 z2 => by
  obtain ⟨b, e1, rfl⟩ := Option.map_eq_some_iff.mp e
  rcases eqb_cases e1 with ⟨s, t, rfl, rfl, rfl⟩ | ⟨i, j, rfl, rfl, rfl⟩ | ⟨p, q, ep, eq, h1, h2, rfl⟩
  · obtain ⟨rfl, _⟩ := z1.str_inv
    obtain ⟨rfl, _⟩ := z2.str_inv
    refine gives_c (.bl _) fun Q q => .inl ⟨rfl, ?_⟩
    rw [show decide (V.str s = V.str t) = decide (s = t) by simp]; exact q
  · cases z1.int_inv
    cases z2.int_inv
    refine gives_c (.bl _) fun Q q => .inl ⟨rfl, ?_⟩
    rw [show decide (V.int i = V.int j) = decide (i = j) by simp]; exact q
  · exact gives_c (.bl _) fun Q qq => .inr ⟨p, q, hK ▸ z1.dp S ep, hK ▸ z2.dp S eq, h1, h2, qq⟩
theorem o2Ne (hK : X.K = Γ.c.K) : Op2 Γ (fun x y H Q => rNe x y H Q ∨ rNeD X.K x y H Q) fNe := fun R H x y dx dy d e S z1 z2 => by
  obtain ⟨b, e1, rfl⟩ := Option.map_eq_some_iff.mp e
  rcases eqb_cases e1 with ⟨s, t, rfl, rfl, rfl⟩ | ⟨i, j, rfl, rfl, rfl⟩ | ⟨p, q, ep, eq, h1, h2, rfl⟩
  · obtain ⟨rfl, _⟩ := z1.str_inv
    obtain ⟨rfl, _⟩ := z2.str_inv
    refine gives_c (.bl _) fun Q q => .inl ⟨rfl, ?_⟩
    rw [show decide (V.str s = V.str t) = decide (s = t) by simp]; exact q
  · cases z1.int_inv
    cases z2.int_inv
    refine gives_c (.bl _) fun Q q => .inl ⟨rfl, ?_⟩
    rw [show decide (V.int i = V.int j) = decide (i = j) by simp]; exact q
  · exact gives_c (.bl _) fun Q qq => .inr ⟨p, q, hK ▸ z1.dp S ep, hK ▸ z2.dp S eq, h1, h2, qq⟩
/-! x in xs, x of no parts -/
def D.flt : D → Bool
  | .non => true
  | .bl _ => true
  | .int _ => true
  | .str _ => true
  | _ => false
def eqF : D → D → Bool
  | .non, .non => true
  | .bl a, .bl b => a == b
  | .bl a, .int b => (if a then 1 else 0) == b
  | .int a, .bl b => a == (if b then 1 else 0)
  | .int a, .int b => a == b
  | .str a, .str b => a == b
  | _, _ => false
theorem Fz.flt {c : Cn} {R : Hp} {v : V} {d : D} (h : Fz c R v d) : flatV v = D.flt d := by cases h <;> rfl
theorem Fz.eqF {c : Cn} {R : Hp} {v u : V} {d e : D} (h : Fz c R v d) (k : Fz c R u e) : eqV v u = Sh.eqF d e := by cases h <;> cases k <;> rfl
theorem FzA.flt {c : Cn} {R : Hp} : ∀ {v : List V} {d : List D}, FzA c R v d → v.all flatV = d.all D.flt
  | _, _, .nil => rfl
  | _, _, .cons h q => by rw [List.all_cons, List.all_cons, h.flt, FzA.flt q]
theorem FzA.inF {c : Cn} {R : Hp} {u : V} {e : D} (k : Fz c R u e) : ∀ {v : List V} {d : List D}, FzA c R v d → inV u v = d.any fun y => Sh.eqF y e
  | _, _, .nil => rfl
  | _, _, .cons h q => by
    have := FzA.inF k q
    unfold inV at this ⊢
    rw [List.any_cons, List.any_cons, h.eqF k, this]
def inD (x : D) : D → Option Bool
  | .tup ds => if x.flt = true ∧ ds.all D.flt = true then some (ds.any fun y => eqF y x) else none
  | .lst ds => if x.flt = true ∧ ds.all D.flt = true then some (ds.any fun y => eqF y x) else none
  | .str z => match x with
    | .str y => some (!(Builtin.Str.occurrences z y 0 z.length 1).isEmpty)
    | _ => none
  | _ => none
def fIn (x y : D) : Option D := (inD x y).map .bl
def fNotIn (x y : D) : Option D := (inD x y).map fun b => .bl (!b)
theorem inD_seq {x : D} {ds : List D} {b : Bool} (h : (if x.flt = true ∧ ds.all D.flt = true then some (ds.any fun y => eqF y x) else none) = some b) : x.flt = true ∧ ds.all D.flt = true ∧ b = ds.any fun y => eqF y x := by
  obtain ⟨h, e⟩ := ite_some h
  exact ⟨h.1, h.2, (Option.some.inj e).symm⟩
theorem o2In (hK : X.K = Γ.c.K) : Op2 Γ (fun x y H Q => rIn X.K false x y H Q ∨ ∃ i j, x = .str i ∧ y = .str j ∧ Q (.bl (!(Builtin.Str.occurrences j i 0 j.length 1).isEmpty)) H) fIn := fun R H x y dx dy d e S z1 z2 => by
  obtain ⟨b, e1, rfl⟩ := Option.map_eq_some_iff.mp e
  cases z2 with
  | tup h l q =>
    obtain ⟨f1, f2, rfl⟩ := inD_seq e1
    refine gives_c (.bl _) fun Q qq => .inl ⟨_, _, rfl, .inr (hK ▸ S.le.sqT h), by rw [z1.flt]; exact f1, by rw [q.flt]; exact f2, ?_⟩
    rw [if_neg (by decide), q.inF z1]; exact qq
  | lst h l q =>
    obtain ⟨f1, f2, rfl⟩ := inD_seq e1
    refine gives_c (.bl _) fun Q qq => .inl ⟨_, _, rfl, .inl (SqL.of (S _ _ h)), by rw [z1.flt]; exact f1, by rw [q.flt]; exact f2, ?_⟩
    rw [if_neg (by decide), q.inF z1]; exact qq
  | str j hj =>
    cases z1 with
    | str i hi =>
      have e1' : some (!(Builtin.Str.occurrences j i 0 j.length 1).isEmpty) = some b := e1
      cases e1'
      exact gives_c (.bl _) fun Q qq => .inr ⟨i, j, rfl, rfl, qq⟩
    | _ => cases e1
  | _ => cases e1
theorem o2NotIn (hK : X.K = Γ.c.K) : Op2 Γ (fun x y H Q => rIn X.K true x y H Q ∨ ∃ i j, x = .str i ∧ y = .str j ∧ Q (.bl (!(!(Builtin.Str.occurrences j i 0 j.length 1).isEmpty))) H) fNotIn := fun R H x y dx dy d e S z1 z2 => by
  obtain ⟨b, e1, rfl⟩ := Option.map_eq_some_iff.mp e
  cases z2 with
  | tup h l q =>
    obtain ⟨f1, f2, rfl⟩ := inD_seq e1
    refine gives_c (.bl _) fun Q qq => .inl ⟨_, _, rfl, .inr (hK ▸ S.le.sqT h), by rw [z1.flt]; exact f1, by rw [q.flt]; exact f2, ?_⟩
    rw [if_pos rfl, q.inF z1]; exact qq
  | lst h l q =>
    obtain ⟨f1, f2, rfl⟩ := inD_seq e1
    refine gives_c (.bl _) fun Q qq => .inl ⟨_, _, rfl, .inl (SqL.of (S _ _ h)), by rw [z1.flt]; exact f1, by rw [q.flt]; exact f2, ?_⟩
    rw [if_pos rfl, q.inF z1]; exact qq
  | str j hj =>
    cases z1 with
    | str i hi =>
      have e1' : some (!(Builtin.Str.occurrences j i 0 j.length 1).isEmpty) = some b := e1
      cases e1'
      exact gives_c (.bl _) fun Q qq => .inr ⟨i, j, rfl, rfl, qq⟩
    | _ => cases e1
  | _ => cases e1
end
section
variable {X : Cx} {Γ : Gm} {a b : Expr} {ta tb : Ed} {pos : Pos}
theorem d_lt (ha : DE X Γ a ta) (hb : DE X Γ b tb) : DE X Γ (.Compare a [.Lt] [b] pos) (e2 fLt ta tb) := d_cmp op_lt o2Lt ha hb (nomark _)
theorem d_le (ha : DE X Γ a ta) (hb : DE X Γ b tb) : DE X Γ (.Compare a [.LtE] [b] pos) (e2 fLe ta tb) := d_cmp op_le o2Le ha hb (nomark _)
theorem d_gt (ha : DE X Γ a ta) (hb : DE X Γ b tb) : DE X Γ (.Compare a [.Gt] [b] pos) (e2 fGt ta tb) := d_cmp op_gt o2Gt ha hb (nomark _)
theorem d_ge (ha : DE X Γ a ta) (hb : DE X Γ b tb) : DE X Γ (.Compare a [.GtE] [b] pos) (e2 fGe ta tb) := d_cmp op_ge o2Ge ha hb (nomark _)
theorem d_is (ha : DE X Γ a ta) (hb : DE X Γ b tb) : DE X Γ (.Compare a [.Is] [b] pos) (e2 fIs ta tb) := d_cmp op_isN o2Is ha hb (nomark _)
theorem d_isnot (ha : DE X Γ a ta) (hb : DE X Γ b tb) : DE X Γ (.Compare a [.IsNot] [b] pos) (e2 fIsNot ta tb) := d_cmp op_notN o2IsNot ha hb (nomark _)
theorem d_eq (hu : X.A.units + 64 < cLine) (ha : DE X Γ a ta) (hb : DE X Γ b tb) (hK : X.K = Γ.c.K := by rfl) : DE X Γ (.Compare a [.Eq] [b] pos) (e2 fEq ta tb) := d_cmp (op_eq.or (op_eqD hu)) (o2Eq hK) ha hb (nomark _)
theorem d_ne (hu : X.A.units + 64 < cLine) (ha : DE X Γ a ta) (hb : DE X Γ b tb) (hK : X.K = Γ.c.K := by rfl) : DE X Γ (.Compare a [.NotEq] [b] pos) (e2 fNe ta tb) := d_cmp (op_ne.or (op_neD hu)) (o2Ne hK) ha hb (nomark _)
theorem d_in (ha : DE X Γ a ta) (hb : DE X Γ b tb) (hm : behindInMarks .In b = false := by rfl) (hK : X.K = Γ.c.K := by rfl) : DE X Γ (.Compare a [.In] [b] pos) (e2 fIn ta tb) := d_cmp (op_in_seq.or op_in_str) (o2In hK) ha hb hm
theorem d_notin (ha : DE X Γ a ta) (hb : DE X Γ b tb) (hm : behindInMarks .NotIn b = false := by rfl) (hK : X.K = Γ.c.K := by rfl) : DE X Γ (.Compare a [.NotIn] [b] pos) (e2 fNotIn ta tb) := d_cmp (op_notIn_seq.or op_notin_str) (o2NotIn hK) ha hb hm
end
end Sh

set_option Elab.async false
set_option linter.all false
set_option maxRecDepth 100000
namespace Sh
open PySem L2 Nf
/-! tests -/
def fTr : D → Option Bool
  | .non => some false
  | .bl b => some b
  | .int i => some (i != 0)
  | .str x => some ((x.length : Int) != 0)
  | .tup ds => some (!ds.isEmpty)
  | .lst ds => some (!ds.isEmpty)
  | _ => none
def trB (t : Ed) : Td := fun ρ => Mb (t ρ) fun d => Mo (fTr d)
def tNt (t : Td) : Td := fun ρ => Mb (t ρ) fun b => Mp (!b)
def tAn (t u : Td) : Td := fun ρ => Mb (t ρ) fun b => if b = true then u ρ else Mp false
def tOr' (t u : Td) : Td := fun ρ => Mb (t ρ) fun b => if b = true then Mp true else u ρ
def vAn (t u : Ed) : Ed := fun ρ => Mb (t ρ) fun x => Mb (Mo (fTr x)) fun b => if b = true then u ρ else Mp x
def vOr (t u : Ed) : Ed := fun ρ => Mb (t ρ) fun x => Mb (Mo (fTr x)) fun b => if b = true then Mp x else u ρ
def vIf (c : Td) (t u : Ed) : Ed := fun ρ => Mb (c ρ) fun b => if b = true then t ρ else u ρ
def fNot (d : D) : Option D := (fTr d).map fun b => .bl (!b)
theorem isEmpty_fz {c : Cn} {R : Hp} {xs : List V} {ds : List D} (h : FzA c R xs ds) : xs.isEmpty = ds.isEmpty := by cases h <;> rfl
theorem Fz.tru {c : Cn} {R H : Hp} {v : V} {d : D} {b : Bool} (S : Same R H) (h : Fz c R v d) (e : fTr d = some b) : TruV c.K v H b := by
  cases h with
  | non => cases e; rfl
  | bl x => cases e; rfl
  | int i => cases e; rfl
  | str x z => cases e; exact ⟨z, rfl⟩
  | tup h _ q => cases e; exact .inr (.inl ⟨_, S.le.sqT h, by rw [isEmpty_fz q]⟩)
  | lst h _ q => cases e; exact .inl ⟨_, SqL.of (S _ _ h), by rw [isEmpty_fz q]⟩
  | dk h _ q => cases e
  | ins _ _ => cases e
  | deck => cases e
section
variable {X : Cx} {Γ : Gm} {a b : Expr} {ta tb : Ed} {pos : Pos} {rest : List Expr}
theorem dt_tr (ha : DE X Γ a ta) (hK : X.K = Γ.c.K := by rfl) (he : ∀ whole, isTrue a X.env whole = (do let v ← whole; standAt a.pos; holding [v] (truthy v)) := by intro _; rfl) : DT X Γ a (trB ta) :=
  ⟨PT.wk (pt_truth ha.p he) fun σ H Q ⟨R, ρ, n, r, n', rp, e, q⟩ => by
    obtain ⟨x, m, e1, e⟩ := Mb_some e
    obtain ⟨ee, rfl⟩ := Mo_some e
    exact ⟨R, ρ, n, x, _, rp, e1, fun v R1 H1 rp1 S1 z1 => ⟨r, hK ▸ z1.tru rp1.hp.same ee, q R1 H1 rp1 S1⟩⟩⟩
/-- the answers are True and False -/
def Bf (f : D → D → Option D) : Prop := ∀ x y d, f x y = some d → ∃ k, d = .bl k
theorem dt_cmp {op : CmpOp} {r : R2} {f : D → D → Option D} (ho : OpR X (compareOp op) r) (hf : Op2 Γ r f) (hb' : Bf f) (ha : DE X Γ a ta) (hb : DE X Γ b tb) (hm : behindInMarks op b = false) : DT X Γ (.Compare a [op] [b] pos) (trB (e2 f ta tb)) :=
  ⟨PT.wk (pt_cmpR ho ha.p hb.p hm) fun σ H Q ⟨R, ρ, n, r, n', rp, e, q⟩ => by
    obtain ⟨d, m0, e0, e⟩ := Mb_some e
    obtain ⟨er, rfl⟩ := Mo_some e
    obtain ⟨x, m, e1, e⟩ := Mb_some e0
    obtain ⟨y, m2, e2, e⟩ := Mb_some e
    obtain ⟨ee, rfl⟩ := Mo_some e
    obtain ⟨k, rfl⟩ := hb' _ _ _ ee
    cases er
    refine ⟨R, ρ, n, x, m, rp, e1, fun v R1 H1 rp1 S1 z1 => ⟨R1, ρ, m, y, _, rp1, e2, fun u R2 H2 rp2 S2 z2 => ?_⟩⟩
    exact hf R2 H2 v u x y _ ee rp2.hp.same (z1.mono S2.le) z2 σ ρ _ _ rp2 fun w R3 H3 rp3 S3 z3 => ⟨_, z3.bl_inv, q R3 H3 rp3 ((S1.trans S2).trans S3)⟩⟩
theorem bf_I {p : Int → Int → Bool} : Bf (fI p) := fun x y d h => by
  cases x <;> cases y <;> first | (cases h; done) | (cases h; exact ⟨_, rfl⟩)
theorem bf_is : Bf fIs := fun x y d h => by
  cases y <;> cases x <;> first | (cases h; done) | (cases h; exact ⟨_, rfl⟩)
theorem bf_isnot : Bf fIsNot := fun x y d h => by
  cases y <;> cases x <;> first | (cases h; done) | (cases h; exact ⟨_, rfl⟩)
theorem bf_map {g : D → D → Option Bool} {k : Bool → Bool} : Bf fun x y => (g x y).map fun b => .bl (k b) := fun x y d h => by
  obtain ⟨b, _, rfl⟩ := Option.map_eq_some_iff.mp h
  exact ⟨_, rfl⟩
theorem dt_lt (ha : DE X Γ a ta) (hb : DE X Γ b tb) : DT X Γ (.Compare a [.Lt] [b] pos) (trB (e2 fLt ta tb)) := dt_cmp op_lt o2Lt bf_I ha hb (nomark _)
theorem dt_le (ha : DE X Γ a ta) (hb : DE X Γ b tb) : DT X Γ (.Compare a [.LtE] [b] pos) (trB (e2 fLe ta tb)) := dt_cmp op_le o2Le bf_I ha hb (nomark _)
theorem dt_gt (ha : DE X Γ a ta) (hb : DE X Γ b tb) : DT X Γ (.Compare a [.Gt] [b] pos) (trB (e2 fGt ta tb)) := dt_cmp op_gt o2Gt bf_I ha hb (nomark _)
theorem dt_ge (ha : DE X Γ a ta) (hb : DE X Γ b tb) : DT X Γ (.Compare a [.GtE] [b] pos) (trB (e2 fGe ta tb)) := dt_cmp op_ge o2Ge bf_I ha hb (nomark _)
theorem dt_is (ha : DE X Γ a ta) (hb : DE X Γ b tb) : DT X Γ (.Compare a [.Is] [b] pos) (trB (e2 fIs ta tb)) := dt_cmp op_isN o2Is bf_is ha hb (nomark _)
theorem dt_isnot (ha : DE X Γ a ta) (hb : DE X Γ b tb) : DT X Γ (.Compare a [.IsNot] [b] pos) (trB (e2 fIsNot ta tb)) := dt_cmp op_notN o2IsNot bf_isnot ha hb (nomark _)
theorem dt_eq (hu : X.A.units + 64 < cLine) (ha : DE X Γ a ta) (hb : DE X Γ b tb) (hK : X.K = Γ.c.K := by rfl) : DT X Γ (.Compare a [.Eq] [b] pos) (trB (e2 fEq ta tb)) := dt_cmp (op_eq.or (op_eqD hu)) (o2Eq hK) (bf_map (k := id)) ha hb (nomark _)
theorem dt_ne (hu : X.A.units + 64 < cLine) (ha : DE X Γ a ta) (hb : DE X Γ b tb) (hK : X.K = Γ.c.K := by rfl) : DT X Γ (.Compare a [.NotEq] [b] pos) (trB (e2 fNe ta tb)) := dt_cmp (op_ne.or (op_neD hu)) (o2Ne hK) bf_map ha hb (nomark _)
theorem dt_in (ha : DE X Γ a ta) (hb : DE X Γ b tb) (hm : behindInMarks .In b = false := by rfl) (hK : X.K = Γ.c.K := by rfl) : DT X Γ (.Compare a [.In] [b] pos) (trB (e2 fIn ta tb)) := dt_cmp (op_in_seq.or op_in_str) (o2In hK) (bf_map (k := id)) ha hb hm
theorem dt_notin (ha : DE X Γ a ta) (hb : DE X Γ b tb) (hm : behindInMarks .NotIn b = false := by rfl) (hK : X.K = Γ.c.K := by rfl) : DT X Γ (.Compare a [.NotIn] [b] pos) (trB (e2 fNotIn ta tb)) := dt_cmp (op_notIn_seq.or op_notin_str) (o2NotIn hK) bf_map ha hb hm
variable {pa pb : Td}
theorem dt_not (h : DT X Γ a pa) : DT X Γ (.UnaryOp .Not a pos) (tNt pa) := ⟨PT.wk (pt_not h.p) fun σ H Q ⟨R, ρ, n, r, n', rp, e, q⟩ => by
  obtain ⟨x, m, e1, e⟩ := Mb_some e
  cases e
  exact ⟨R, ρ, n, x, _, rp, e1, q⟩⟩
theorem dw_pt (h : DW X Γ a pa) : DT X Γ a pa := ⟨h.p.pt⟩
theorem dw_and1 (h : DT X Γ a pa) : DW X Γ (.BoolOp .And [a] pos) pa := ⟨pw_and1 h.p⟩
theorem dw_or1 (h : DT X Γ a pa) : DW X Γ (.BoolOp .Or [a] pos) pa := ⟨pw_or1 h.p⟩
theorem dw_and (h : DT X Γ a pa) (k : DW X Γ (.BoolOp .And (b :: rest) pos) pb) : DW X Γ (.BoolOp .And (a :: b :: rest) pos) (tAn pa pb) := ⟨PW.wk (pw_and h.p k.p) fun σ H Q ⟨R, ρ, n, r, n', rp, e, q⟩ => by
  obtain ⟨x, m, e1, e⟩ := Mb_some e
  cases x with
  | true => exact ⟨R, ρ, n, true, m, rp, e1, fun R1 H1 rp1 S1 => iteT ⟨R1, ρ, m, r, n', rp1, e, fun R2 H2 rp2 S2 => q R2 H2 rp2 (S1.trans S2)⟩⟩
  | false => cases e; exact ⟨R, ρ, n, false, _, rp, e1, fun R1 H1 rp1 S1 => iteF (q R1 H1 rp1 S1)⟩⟩
theorem dw_or (h : DT X Γ a pa) (k : DW X Γ (.BoolOp .Or (b :: rest) pos) pb) : DW X Γ (.BoolOp .Or (a :: b :: rest) pos) (tOr' pa pb) := ⟨PW.wk (pw_or h.p k.p) fun σ H Q ⟨R, ρ, n, r, n', rp, e, q⟩ => by
  obtain ⟨x, m, e1, e⟩ := Mb_some e
  cases x with
  | false => exact ⟨R, ρ, n, false, m, rp, e1, fun R1 H1 rp1 S1 => iteF ⟨R1, ρ, m, r, n', rp1, e, fun R2 H2 rp2 S2 => q R2 H2 rp2 (S1.trans S2)⟩⟩
  | true => cases e; exact ⟨R, ρ, n, true, _, rp, e1, fun R1 H1 rp1 S1 => iteT (q R1 H1 rp1 S1)⟩⟩
theorem d_one {op} (h : DE X Γ a ta) : DE X Γ (.BoolOp op [a] pos) ta := ⟨pe_one h.p⟩
theorem d_and (h : DE X Γ a ta) (k : DE X Γ (.BoolOp .And (b :: rest) pos) tb) (hK : X.K = Γ.c.K := by rfl) : DE X Γ (.BoolOp .And (a :: b :: rest) pos) (vAn ta tb) := ⟨PE.wk (pe_andT h.p k.p) fun σ H Q ⟨R, ρ, n, r, n', rp, e, q⟩ => by
  obtain ⟨x, m, e1, e⟩ := Mb_some e
  obtain ⟨c, m2, e2, e⟩ := Mb_some e
  obtain ⟨ee, rfl⟩ := Mo_some e2
  refine ⟨R, ρ, n, x, _, rp, e1, fun v R1 H1 rp1 S1 z1 => ⟨c, hK ▸ z1.tru rp1.hp.same ee, ?_⟩⟩
  cases c with
  | true => exact iteT ⟨R1, ρ, _, r, n', rp1, e, fun u R2 H2 rp2 S2 z2 => q u R2 H2 rp2 (S1.trans S2) z2⟩
  | false => cases e; exact iteF (q v R1 H1 rp1 S1 z1)⟩
theorem d_or (h : DE X Γ a ta) (k : DE X Γ (.BoolOp .Or (b :: rest) pos) tb) (hK : X.K = Γ.c.K := by rfl) : DE X Γ (.BoolOp .Or (a :: b :: rest) pos) (vOr ta tb) := ⟨PE.wk (pe_orT h.p k.p) fun σ H Q ⟨R, ρ, n, r, n', rp, e, q⟩ => by
  obtain ⟨x, m, e1, e⟩ := Mb_some e
  obtain ⟨c, m2, e2, e⟩ := Mb_some e
  obtain ⟨ee, rfl⟩ := Mo_some e2
  refine ⟨R, ρ, n, x, _, rp, e1, fun v R1 H1 rp1 S1 z1 => ⟨c, hK ▸ z1.tru rp1.hp.same ee, ?_⟩⟩
  cases c with
  | false => exact iteF ⟨R1, ρ, _, r, n', rp1, e, fun u R2 H2 rp2 S2 z2 => q u R2 H2 rp2 (S1.trans S2) z2⟩
  | true => cases e; exact iteT (q v R1 H1 rp1 S1 z1)⟩
theorem d_not (h : DE X Γ a ta) (hK : X.K = Γ.c.K := by rfl) : DE X Γ (.UnaryOp .Not a pos) (e1 fNot ta) := ⟨PE.wk (pe_notT h.p) fun σ H Q ⟨R, ρ, n, r, n', rp, e, q⟩ => by
  obtain ⟨x, m, e1, e⟩ := Mb_some e
  obtain ⟨ee, rfl⟩ := Mo_some e
  obtain ⟨c, ec, rfl⟩ := Option.map_eq_some_iff.mp ee
  exact ⟨R, ρ, n, x, _, rp, e1, fun v R1 H1 rp1 S1 z1 => ⟨c, hK ▸ z1.tru rp1.hp.same ec, q _ R1 H1 rp1 S1 (.bl _)⟩⟩⟩
theorem d_if {c : Expr} (hc : DT X Γ c pa) (h : DE X Γ a ta) (k : DE X Γ b tb) : DE X Γ (.IfExp c a b pos) (vIf pa ta tb) := ⟨PE.wk (pe_ifExp hc.p h.p k.p) fun σ H Q ⟨R, ρ, n, r, n', rp, e, q⟩ => by
  obtain ⟨x, m, e1, e⟩ := Mb_some e
  cases x with
  | true => exact ⟨R, ρ, n, true, m, rp, e1, fun R1 H1 rp1 S1 => iteT ⟨R1, ρ, m, r, n', rp1, e, fun u R2 H2 rp2 S2 z2 => q u R2 H2 rp2 (S1.trans S2) z2⟩⟩
  | false => exact ⟨R, ρ, n, false, m, rp, e1, fun R1 H1 rp1 S1 => iteF ⟨R1, ρ, m, r, n', rp1, e, fun u R2 H2 rp2 S2 z2 => q u R2 H2 rp2 (S1.trans S2) z2⟩⟩⟩
/-! a < b < c -/
def vCh (f g : D → D → Option D) (ta tb tc : Ed) : Ed := fun ρ => Mb (ta ρ) fun x => Mb (tb ρ) fun y => Mb (Mo (f x y)) fun z => if fTr z = some true then Mb (tc ρ) fun w => Mo (g y w) else Mp (.bl false)
theorem d_chain {op op' : CmpOp} {r r' : R2} {f g : D → D → Option D} {c : Expr} {tc : Ed} (ho : OpR X (compareOp op) r) (hf : Op2 Γ r f) (bf : Bf f) (ho' : OpR X (compareOp op') r') (hg : Op2 Γ r' g) (ha : DE X Γ a ta) (hb : DE X Γ b tb) (hc : DE X Γ c tc)
    (hm : lastMarks [op, op'] [b, c] = false := by with_unfolding_all rfl) : DE X Γ (.Compare a [op, op'] [b, c] pos) (vCh f g ta tb tc) := ⟨PE.wk (pe_chain ho ho' ha.p hb.p hc.p hm) fun σ H Q ⟨R, ρ, n, r, n', rp, e, q⟩ => by
  obtain ⟨x, m, e1, e⟩ := Mb_some e
  obtain ⟨y, m2, e2, e⟩ := Mb_some e
  obtain ⟨z, m3, e3, e⟩ := Mb_some e
  obtain ⟨ee, rfl⟩ := Mo_some e3
  obtain ⟨k, rfl⟩ := bf _ _ _ ee
  refine ⟨R, ρ, n, x, m, rp, e1, fun v R1 H1 rp1 S1 z1 => ⟨R1, ρ, m, y, _, rp1, e2, fun u R2 H2 rp2 S2 z2 => ?_⟩⟩
  refine hf R2 H2 v u x y _ ee rp2.hp.same (z1.mono S2.le) z2 σ ρ _ _ rp2 fun w R3 H3 rp3 S3 z3 => ⟨k, z3.bl_inv, ?_⟩
  cases k with
  | true =>
    obtain ⟨w', m4, e4, e⟩ := Mb_some e
    obtain ⟨e5, rfl⟩ := Mo_some e
    refine iteT ⟨R3, ρ, _, w', _, rp3, e4, fun u4 R4 H4 rp4 S4 z4 => ?_⟩
    exact hg R4 H4 u u4 y w' r e5 rp4.hp.same ((z2.mono S3.le).mono S4.le) z4 σ ρ _ _ rp4 fun w5 R5 H5 rp5 S5 z5 => q w5 R5 H5 rp5 ((((S1.trans S2).trans S3).trans S4).trans S5) z5
  | false => cases e; exact iteF (q _ R3 H3 rp3 ((S1.trans S2).trans S3) (.bl _))⟩
theorem dt_chain {op op' : CmpOp} {r r' : R2} {f g : D → D → Option D} {c : Expr} {tc : Ed} (ho : OpR X (compareOp op) r) (hf : Op2 Γ r f) (bf : Bf f) (ho' : OpR X (compareOp op') r') (hg : Op2 Γ r' g) (bg : Bf g) (ha : DE X Γ a ta) (hb : DE X Γ b tb) (hc : DE X Γ c tc)
    (hm : lastMarks [op, op'] [b, c] = false := by with_unfolding_all rfl) : DT X Γ (.Compare a [op, op'] [b, c] pos) (trB (vCh f g ta tb tc)) := ⟨PT.wk (pt_chain ho ho' ha.p hb.p hc.p hm) fun σ H Q ⟨R, ρ, n, r, n', rp, e, q⟩ => by
  obtain ⟨d, m0, e0, e⟩ := Mb_some e
  obtain ⟨er, rfl⟩ := Mo_some e
  obtain ⟨x, m, e1, e⟩ := Mb_some e0
  obtain ⟨y, m2, e2, e⟩ := Mb_some e
  obtain ⟨z, m3, e3, e⟩ := Mb_some e
  obtain ⟨ee, rfl⟩ := Mo_some e3
  obtain ⟨k, rfl⟩ := bf _ _ _ ee
  refine ⟨R, ρ, n, x, m, rp, e1, fun v R1 H1 rp1 S1 z1 => ⟨R1, ρ, m, y, _, rp1, e2, fun u R2 H2 rp2 S2 z2 => ?_⟩⟩
  refine hf R2 H2 v u x y _ ee rp2.hp.same (z1.mono S2.le) z2 σ ρ _ _ rp2 fun w R3 H3 rp3 S3 z3 => ⟨k, z3.bl_inv, ?_⟩
  cases k with
  | true =>
    obtain ⟨w', m4, e4, e⟩ := Mb_some e
    obtain ⟨e5, rfl⟩ := Mo_some e
    obtain ⟨k2, rfl⟩ := bg _ _ _ e5
    cases er
    refine iteT ⟨R3, ρ, _, w', _, rp3, e4, fun u4 R4 H4 rp4 S4 z4 => ?_⟩
    exact hg R4 H4 u u4 y w' _ e5 rp4.hp.same ((z2.mono S3.le).mono S4.le) z4 σ ρ _ _ rp4 fun w5 R5 H5 rp5 S5 z5 => ⟨_, z5.bl_inv, q R5 H5 rp5 ((((S1.trans S2).trans S3).trans S4).trans S5)⟩
  | false => cases e; cases er; exact iteF ⟨false, rfl, q R3 H3 rp3 ((S1.trans S2).trans S3)⟩⟩
end
/-! displays -/
section
variable {X : Cx} {Γ : Gm} {es : List Expr} {t : Ad} {pos : Pos}
def eTup (t : Ad) : Ed := fun ρ => Mb (t ρ) fun ds => Mp (.tup ds)
def eLst (t : Ad) : Ed := fun ρ => Mb (t ρ) fun ds => Mp (.lst ds)
def eTupS (t : Ad) : Ed := fun ρ => Mb (t ρ) fun ds => Mo (szl ds.length (.tup ds))
theorem d_tup {k : Nat} {x1} (h : DA X Γ es t) (hl : ∀ ρ n r n', t ρ n = some (r, n') → r.length = k) (hk : k ≤ sizeLine := by decide) : DE X Γ (.Tuple es x1 pos) (eTup t) := ⟨PE.wk (pe_tup h.p) fun σ H Q ⟨R, ρ, n, r, n', rp, e, q⟩ => by
  obtain ⟨ds, m, e1, e⟩ := Mb_some e
  cases e
  refine ⟨R, ρ, n, ds, _, rp, e1, fun vs R1 H1 rp1 S1 z1 => ?_⟩
  have hz : vs.length ≤ sizeLine := by rw [z1.len, hl _ _ _ _ e1]; exact hk
  exact ⟨hz, fun p hp => q _ _ _ (rp1.lay hp) (S1.trans (rp1.go hp)) (.tup (SqT.of upd_same) hz (z1.mono (rp1.go hp).le))⟩⟩
theorem d_tupS {x1} (h : DA X Γ es t) : DE X Γ (.Tuple es x1 pos) (eTupS t) := ⟨PE.wk (pe_tup h.p) fun σ H Q ⟨R, ρ, n, r, n', rp, e, q⟩ => by
  obtain ⟨ds, m, e1, e⟩ := Mb_some e
  obtain ⟨ee, rfl⟩ := Mo_some e
  obtain ⟨hz, rfl⟩ := szl_some ee
  refine ⟨R, ρ, n, ds, _, rp, e1, fun vs R1 H1 rp1 S1 z1 => ?_⟩
  rw [← z1.len] at hz
  exact ⟨hz, fun p hp => q _ _ _ (rp1.lay hp) (S1.trans (rp1.go hp)) (.tup (SqT.of upd_same) hz (z1.mono (rp1.go hp).le))⟩⟩
theorem d_lst {k : Nat} (h : DA X Γ es t) (hl : ∀ ρ n r n', t ρ n = some (r, n') → r.length = k) (hk : k ≤ sizeLine := by decide) : DE X Γ (.List es pos) (eLst t) := ⟨PE.wk (pe_lst h.p) fun σ H Q ⟨R, ρ, n, r, n', rp, e, q⟩ => by
  obtain ⟨ds, m, e1, e⟩ := Mb_some e
  cases e
  refine ⟨R, ρ, n, ds, _, rp, e1, fun vs R1 H1 rp1 S1 z1 => ?_⟩
  have hz : vs.length ≤ sizeLine := by rw [z1.len, hl _ _ _ _ e1]; exact hk
  exact ⟨hz, fun p hp => q _ _ _ (rp1.lay hp) (S1.trans (rp1.go hp)) (.lst upd_same hz (z1.mono (rp1.go hp).le))⟩⟩
/-- *e, .. -/
def aStar (t : Ed) (u : Ad) : Ad := fun ρ => Mb (t ρ) fun x => Mb (u ρ) fun ys => match x with
  | .tup xs => Mp (xs ++ ys)
  | .lst xs => Mp (xs ++ ys)
  | _ => Mo none
theorem da_star {e : Expr} {p : Pos} {t : Ed} {u : Ad} (he : DE X Γ e t) (hr : DA X Γ es u) (hs : starEach (.Starred e p :: es) X.env = (true, eval e X.env) :: starEach es X.env := by rfl) (hK : X.K = Γ.c.K := by rfl) : DA X Γ (.Starred e p :: es) (aStar t u) :=
  ⟨PA.wk (StX.pa_star he.p hr.p hs) fun σ H Q ⟨R, ρ, n, r, n', rp, e, q⟩ => by
    obtain ⟨x, m, e1, e⟩ := Mb_some e
    obtain ⟨ys, m2, e2, e⟩ := Mb_some e
    refine ⟨R, ρ, n, x, m, rp, e1, fun v R1 H1 rp1 S1 z1 => ?_⟩
    cases z1 with
    | tup h l f =>
      cases e
      exact ⟨_, _, rfl, .inl (hK ▸ rp1.hp.same.le.sqT h), R1, ρ, m, ys, _, rp1, e2, fun vs R2 H2 rp2 S2 z2 => q _ R2 H2 rp2 (S1.trans S2) ((f.mono S2.le).app z2)⟩
    | lst h l f =>
      cases e
      exact ⟨_, _, rfl, .inr (SqL.of (rp1.hp.same _ _ h)), R1, ρ, m, ys, _, rp1, e2, fun vs R2 H2 rp2 S2 z2 => q _ R2 H2 rp2 (S1.trans S2) ((f.mono S2.le).app z2)⟩
    | _ => cases e⟩
end
/-! subscripts -/
section
variable {X : Cx} {Γ : Gm} {a b : Expr} {ta tb : Ed} {pos : Pos}
theorem FzA.atI {c : Cn} {R : Hp} {vs : List V} {ds : List D} {i : Int} {d : D} (h : FzA c R vs ds) (e : L2.atI ds i = some d) : ∃ v, L2.atI vs i = some v ∧ Fz c R v d := by
  unfold L2.atI at e ⊢
  rw [← h.len] at e
  cases q : ixN vs.length i with
  | none => rw [q] at e; cases e
  | some j =>
    rw [q] at e
    exact h.get (i := j) e
def fIx : D → D → Option D
  | .tup ds, .int i => L2.atI ds i
  | .lst ds, .int i => L2.atI ds i
  | .str z, .int i => (L2.atI z.cps.toList i).map fun c => .str ⟨#[c]⟩
  | _, _ => none
theorem one_len (c : Nat) : (⟨#[c]⟩ : Str).length ≤ sizeLine := by show 1 ≤ sizeLine; decide
theorem o2Ix (hK : X.K = Γ.c.K) : Op2 Γ (rIx X.K) fIx := fun R H x y dx dy d e S z1 z2 => by
  cases z1 with
  | tup h l f => cases z2 with
    | int i => obtain ⟨v, h1, h2⟩ := f.atI e; exact gives_c h2 fun Q q => .inr (.inl ⟨_, _, _, _, rfl, rfl, hK ▸ S.le.sqT h, h1, q⟩)
    | _ => cases e
  | lst h l f => cases z2 with
    | int i => obtain ⟨v, h1, h2⟩ := f.atI e; exact gives_c h2 fun Q q => .inl ⟨_, _, _, _, rfl, rfl, SqL.of (S _ _ h), h1, q⟩
    | _ => cases e
  | str z hz => cases z2 with
    | int i =>
      obtain ⟨c, ec, rfl⟩ := Option.map_eq_some_iff.mp e
      exact gives_c (.str _ (one_len c)) fun Q q => .inr (.inr ⟨z, i, c, rfl, rfl, hz, ec, q⟩)
    | _ => cases e
  | _ => cases e
theorem d_ix (ha : DE X Γ a ta) (hb : DE X Γ b tb) (hs : PlainIx b := by exact fun _ _ => rfl) (hK : X.K = Γ.c.K := by rfl) : DE X Γ (.Subscript a b pos) (e2 fIx ta tb) :=
  ⟨PE.wk (pe_ix ix_seq ha.p hb.p hs) fun σ H Q ⟨R, ρ, n, r, n', rp, e, q⟩ => by
    obtain ⟨x, m, e1, e⟩ := Mb_some e
    obtain ⟨y, m2, e2, e⟩ := Mb_some e
    obtain ⟨ee, rfl⟩ := Mo_some e
    refine ⟨R, ρ, n, x, m, rp, e1, fun v R1 H1 rp1 S1 z1 => ⟨R1, ρ, m, y, _, rp1, e2, fun u R2 H2 rp2 S2 z2 => ?_⟩⟩
    exact o2Ix hK R2 H2 v u x y r ee rp2.hp.same (z1.mono S2.le) z2 σ ρ _ Q rp2 fun w R3 H3 rp3 S3 z3 => q w R3 H3 rp3 ((S1.trans S2).trans S3) z3⟩
/-! slices -/
abbrev Pd := Sd → M (Option Int)
structure DP (X : Cx) (Γ : Gm) (e : Option Expr) (t : Pd) : Prop where
  p : PO X e fun σ H Q => ∃ R ρ n r n', Rp Γ R H σ ρ n ∧ t ρ n = some (r, n') ∧ ∀ R' H', Rp Γ R' H' σ ρ n' → Go Γ R H R' H' → Q r H'
theorem dp_none : DP X Γ none (fun _ => Mp none) := ⟨⟨fun pins s σ H Q I ⟨R, ρ, n, r, n', rp, e, q⟩ => by
  cases e
  exact po_none.run pins s σ H Q I (q R H rp (Go.refl _ _ _))⟩⟩
def pSome (t : Ed) : Pd := fun ρ => Mb (t ρ) fun d => match d with
  | .int i => Mp (some i)
  | _ => Mo none
theorem dp_some (ha : DE X Γ a ta) : DP X Γ (some a) (pSome ta) := ⟨⟨fun pins s σ H Q I ⟨R, ρ, n, r, n', rp, e, q⟩ => by
  obtain ⟨x, m, e1, e⟩ := Mb_some e
  refine (po_some ha.p).run pins s σ H Q I ⟨R, ρ, n, x, m, rp, e1, fun v R1 H1 rp1 S1 z1 => ?_⟩
  cases z1 with
  | int i => cases e; exact ⟨i, rfl, q R1 H1 rp1 S1⟩
  | _ => cases e⟩⟩
def cutD (xs : List D) (lo hi : Option Int) : List D := (xs.drop (HT.sIx xs.length 0 lo)).take (HT.sIx xs.length xs.length hi - HT.sIx xs.length 0 lo)
theorem FzA.cut {c : Cn} {R : Hp} {vs : List V} {ds : List D} (h : FzA c R vs ds) (lo hi : Option Int) : FzA c R (cutV vs lo hi) (cutD ds lo hi) := by
  unfold cutV cutD
  rw [h.len]
  exact (h.drop _).take _
def fSl : D → Option Int → Option Int → Option D
  | .tup ds, lo, hi => some (.tup (cutD ds lo hi))
  | .lst ds, lo, hi => some (.lst (cutD ds lo hi))
  | .str z, lo, hi => some (.str (cutS z lo hi))
  | _, _, _ => none
def eSl (t : Ed) (l h : Pd) : Ed := fun ρ => Mb (t ρ) fun x => Mb (l ρ) fun lo => Mb (h ρ) fun hi => Mo (fSl x lo hi)
theorem d_sl {lo hi : Option Expr} {tl th : Pd} {p2 : Pos} (ha : DE X Γ a ta) (hl : DP X Γ lo tl) (hh : DP X Γ hi th) (hK : X.K = Γ.c.K := by rfl) : DE X Γ (.Subscript a (.Slice lo hi none p2) pos) (eSl ta tl th) :=
  ⟨PE.wk (pe_slice (sl_list.or (sl_tupA.or sl_str)) ha.p hl.p hh.p) fun σ H Q ⟨R, ρ, n, r, n', rp, e, q⟩ => by
    obtain ⟨x, m, e1, e⟩ := Mb_some e
    obtain ⟨l, m2, e2, e⟩ := Mb_some e
    obtain ⟨h, m3, e3, e⟩ := Mb_some e
    obtain ⟨ee, rfl⟩ := Mo_some e
    refine ⟨R, ρ, n, x, m, rp, e1, fun v R1 H1 rp1 S1 z1 => ⟨R1, ρ, m, l, _, rp1, e2, fun R2 H2 rp2 S2 => ⟨R2, ρ, _, h, _, rp2, e3, fun R3 H3 rp3 S3 => ?_⟩⟩⟩
    have z3 := (z1.mono S2.le).mono S3.le
    have S123 := (S1.trans S2).trans S3
    cases z3 with
    | lst hh lh f =>
      cases ee
      refine .inl ⟨_, _, rfl, SqL.of (rp3.hp.same _ _ hh), fun p hp => q _ _ _ (rp3.lay hp) (S123.trans (rp3.go hp)) (.lst upd_same ?_ ((f.cut l h).mono (rp3.go hp).le))⟩
      exact Nat.le_trans (cutV_length _ _ _) lh
    | tup hh lh f =>
      cases ee
      refine .inr (.inl ⟨_, _, rfl, hK ▸ rp3.hp.same.le.sqT hh, fun hw => ?_, fun _ p hp => ?_⟩)
      · refine q _ R3 H3 rp3 S123 (.tup hh lh ?_)
        have e0 := f.cut l h
        have : cutV _ l h = _ := show cutV _ l h = _ from by unfold cutV; rw [hw.1, hw.2, List.drop_zero, Nat.sub_zero, List.take_length]
        rw [this] at e0
        exact e0
      · exact q _ _ _ (rp3.lay hp) (S123.trans (rp3.go hp)) (.tup (SqT.of upd_same) (Nat.le_trans (cutV_length _ _ _) lh) ((f.cut l h).mono (rp3.go hp).le))
    | str z hz =>
      cases ee
      exact .inr (.inr ⟨z, rfl, hz, q _ R3 H3 rp3 S123 (.str _ (Nat.le_trans (cutS_length z _ _) hz))⟩)
    | _ => cases ee⟩
def fRev : D → Option D
  | .lst ds => some (.lst ds.reverse)
  | _ => none
theorem d_rev {k : Nat} {p1 p2 p3 : Pos} (ha : DE X Γ a ta) (hK : X.K = Γ.c.K := by rfl) : DE X Γ (.Subscript a (.Slice none none (some (.UnaryOp .USub (.Constant (.int 1) k p1) p2)) p3) pos) (e1 fRev ta) :=
  ⟨PE.wk (pe_revL ha.p) fun σ H Q ⟨R, ρ, n, r, n', rp, e, q⟩ => by
    obtain ⟨x, m, e1, e⟩ := Mb_some e
    obtain ⟨ee, rfl⟩ := Mo_some e
    refine ⟨R, ρ, n, x, _, rp, e1, fun v R1 H1 rp1 S1 z1 => ?_⟩
    cases z1 with
    | lst hh lh f =>
      cases ee
      exact ⟨_, _, rfl, SqL.of (rp1.hp.same _ _ hh), fun p hp => q _ _ _ (rp1.lay hp) (S1.trans (rp1.go hp)) (.lst upd_same (by rw [List.length_reverse]; exact lh) (f.rev.mono (rp1.go hp).le))⟩
    | _ => cases ee⟩
end
end Sh

set_option Elab.async false
set_option linter.all false
set_option maxRecDepth 100000
namespace Nf
open PySem L2
/-! ### sayings -/
inductive Say where
  | name (x : Str) | skip | app (c : Bool) (w : Str) (ps : List Say) | two (c : Bool) (a b : Say)
def hApp (c : Bool) : Str := if c then "call" else "made"
def hTwo (c : Bool) : Str := if c then "same" else "either"
mutual
def Say.da : Say → Da
  | .name x => .tup [.str "name", .str x]
  | .skip => .tup [.str "skip"]
  | .app c w ps => .tup [.str (hApp c), .str w, .tup (Say.das ps)]
  | .two c a b => .tup [.str (hTwo c), Say.da a, Say.da b]
def Say.das : List Say → List Da
  | [] => []
  | s :: r => Say.da s :: Say.das r
end
theorem Say.das_map : ∀ ps : List Say, Say.das ps = ps.map Say.da
  | [] => rfl
  | s :: r => by simp only [Say.das, List.map_cons, Say.das_map r]
def Say.head : Say → Str
  | .name _ => "name"
  | .skip => "skip"
  | .app c _ _ => hApp c
  | .two c _ _ => hTwo c
section
variable {H : Hp} {v : V}
theorem is_name {x : Str} (h : Is H v (Say.name x).da) : ∃ a, v = .ref a ∧ H a = some (.tup [.str "name", .str x]) := by
  simp only [Say.da] at h
  cases h with
  | @tup a xs _ h1 h2 =>
    cases h2 with
    | cons p q =>
      cases q with
      | cons p2 q2 =>
        cases q2; cases p; cases p2
        exact ⟨a, rfl, h1⟩
theorem is_skip (h : Is H v Say.skip.da) : ∃ a, v = .ref a ∧ H a = some (.tup [.str "skip"]) := by
  simp only [Say.da] at h
  cases h with
  | @tup a xs _ h1 h2 =>
    cases h2 with
    | cons p q =>
      cases q; cases p
      exact ⟨a, rfl, h1⟩
theorem is_app {c : Bool} {w : Str} {ps : List Say} (h : Is H v (Say.app c w ps).da) : ∃ a b xs, v = .ref a ∧ H a = some (.tup [.str (hApp c), .str w, .ref b]) ∧ H b = some (.tup xs) ∧ IsA H xs (ps.map Say.da) := by
  simp only [Say.da, Say.das_map] at h
  cases h with
  | @tup a xs _ h1 h2 =>
    cases h2 with
    | cons p q =>
      cases q with
      | cons p2 q2 =>
        cases q2 with
        | cons p3 q3 =>
          cases q3; cases p; cases p2
          cases p3 with
          | @tup b ys _ h3 h4 => exact ⟨a, b, ys, rfl, h1, h3, h4⟩
theorem is_two {c : Bool} {s t : Say} (h : Is H v (Say.two c s t).da) : ∃ a x y, v = .ref a ∧ H a = some (.tup [.str (hTwo c), x, y]) ∧ Is H x s.da ∧ Is H y t.da := by
  simp only [Say.da] at h
  cases h with
  | @tup a xs _ h1 h2 =>
    cases h2 with
    | cons p q =>
      cases q with
      | cons p2 q2 =>
        cases q2 with
        | cons p3 q3 =>
          cases q3; cases p
          exact ⟨a, _, _, rfl, h1, p2, p3⟩
theorem mk_name {a : Addr} {x : Str} (h : H a = some (.tup [.str "name", .str x])) : Is H (.ref a) (Say.name x).da := by
  simp only [Say.da]
  exact .tup h (.cons (.str _) (.cons (.str _) .nil))
theorem mk_skip {a : Addr} (h : H a = some (.tup [.str "skip"])) : Is H (.ref a) Say.skip.da := by
  simp only [Say.da]
  exact .tup h (.cons (.str _) .nil)
theorem mk_app {a b : Addr} {c : Bool} {w : Str} {xs : List V} {ps : List Say} (h : H a = some (.tup [.str (hApp c), .str w, .ref b])) (h2 : H b = some (.tup xs)) (h3 : IsA H xs (ps.map Say.da)) : Is H (.ref a) (Say.app c w ps).da := by
  simp only [Say.da, Say.das_map]
  exact .tup h (.cons (.str _) (.cons (.str _) (.cons (.tup h2 h3) .nil)))
theorem mk_two {a : Addr} {x y : V} {c : Bool} {s t : Say} (h : H a = some (.tup [.str (hTwo c), x, y])) (h2 : Is H x s.da) (h3 : Is H y t.da) : Is H (.ref a) (Say.two c s t).da := by
  simp only [Say.da]
  exact .tup h (.cons (.str _) (.cons h2 (.cons h3 .nil)))
/-- the head of a saying stands first -/
theorem is_head {s : Say} (h : Is H v s.da) : ∃ a r, v = .ref a ∧ H a = some (.tup (.str s.head :: r)) := by
  cases s with
  | name x => obtain ⟨a, rfl, h'⟩ := is_name h; exact ⟨a, _, rfl, h'⟩
  | skip => obtain ⟨a, rfl, h'⟩ := is_skip h; exact ⟨a, _, rfl, h'⟩
  | app c w ps => obtain ⟨a, b, xs, rfl, h, _⟩ := is_app h; exact ⟨a, _, rfl, h⟩
  | two c s t => obtain ⟨a, x, y, rfl, h, _⟩ := is_two h; exact ⟨a, _, rfl, h⟩
end
/-- within a depth, with heads among some, at most three parts -/
def Say.ok (f : Str → Prop) : Nat → Say → Prop
  | 0, _ => False
  | _ + 1, .name _ => f "name"
  | _ + 1, .skip => f "skip"
  | n + 1, .app c _ ps => f (hApp c) ∧ ps.length ≤ 3 ∧ ∀ p ∈ ps, Say.ok f n p
  | n + 1, .two c a b => f (hTwo c) ∧ Say.ok f n a ∧ Say.ok f n b
theorem Say.ok_mono {f : Str → Prop} : ∀ {n m : Nat} {s : Say}, n ≤ m → Say.ok f n s → Say.ok f m s
  | 0, _, _, _, h => h.elim
  | _ + 1, 0, _, h, _ => absurd h (by omega)
  | n + 1, m + 1, .name _, _, h => h
  | n + 1, m + 1, .skip, _, h => h
  | n + 1, m + 1, .app c w ps, hm, h => ⟨h.1, h.2.1, fun p hp => Say.ok_mono (by omega) (h.2.2 p hp)⟩
  | n + 1, m + 1, .two c a b, hm, h => ⟨h.1, Say.ok_mono (by omega) h.2.1, Say.ok_mono (by omega) h.2.2⟩
theorem Say.ok_imp {f g : Str → Prop} (k : ∀ x, f x → g x) : ∀ {n : Nat} {s : Say}, Say.ok f n s → Say.ok g n s
  | 0, _, h => h.elim
  | n + 1, .name _, h => k _ h
  | n + 1, .skip, h => k _ h
  | n + 1, .app c w ps, h => ⟨k _ h.1, h.2.1, fun p hp => Say.ok_imp k (h.2.2 p hp)⟩
  | n + 1, .two c a b, h => ⟨k _ h.1, Say.ok_imp k h.2.1, Say.ok_imp k h.2.2⟩
theorem Say.dep {f : Str → Prop} : ∀ {n : Nat} {s : Say}, Say.ok f n s → Da.dep (2 * n + 2) s.da
  | 0, _, h => h.elim
  | n + 1, .name _, _ => by
    simp only [Say.da]
    refine ⟨by simp, fun d hd => ?_⟩
    simp at hd
    rcases hd with rfl | rfl <;> exact True.intro
  | n + 1, .skip, _ => by
    simp only [Say.da]
    refine ⟨by simp, fun d hd => ?_⟩
    simp at hd
    subst hd
    exact True.intro
  | n + 1, .app c w ps, h => by
    simp only [Say.da, Say.das_map]
    refine ⟨by simp, fun d hd => ?_⟩
    simp at hd
    rcases hd with rfl | rfl | rfl
    · exact True.intro
    · exact True.intro
    · refine ⟨by rw [List.length_map]; have := h.2.1; omega, fun d hd => ?_⟩
      obtain ⟨p, hp, rfl⟩ := List.mem_map.mp hd
      have := Say.dep (h.2.2 p hp)
      exact this
  | n + 1, .two c a b, h => by
    simp only [Say.da]
    have k : ∀ {j : Nat} {d : Da}, Da.dep j d → Da.dep (j + 1) d := by
      intro j
      induction j with
      | zero => intro d h; exact h.elim
      | succ j ih =>
        intro d h
        cases d with
        | tup ds => exact ⟨h.1, fun d hd => ih (h.2 d hd)⟩
        | _ => exact True.intro
    refine ⟨by simp, fun d hd => ?_⟩
    simp at hd
    rcases hd with rfl | rfl | rfl
    · exact True.intro
    · exact k (Say.dep h.2.1)
    · exact k (Say.dep h.2.2)
theorem Da.dep_mono : ∀ {n m : Nat} {d : Da}, n ≤ m → Da.dep n d → Da.dep m d
  | 0, _, _, _, h => h.elim
  | _ + 1, 0, _, h, _ => absurd h (by omega)
  | n + 1, m + 1, .tup ds, hm, h => ⟨h.1, fun d hd => Da.dep_mono (by omega) (h.2 d hd)⟩
  | n + 1, m + 1, .non, _, _ => True.intro
  | n + 1, m + 1, .bl _, _, _ => True.intro
  | n + 1, m + 1, .int _, _, _ => True.intro
  | n + 1, m + 1, .str _, _, _ => True.intro
/-- the six heads -/
def heads6 : List Str := ["name", "made", "call", "either", "same", "skip"]
theorem str_len (x y : Str) : (x ++ y).length = x.length + y.length := by
  show (x.cps ++ y.cps).size = x.cps.size + y.cps.size
  rw [Array.size_append]
/-- what a draw may cost -/
def cost (m : Nat) : Nat := 20 * 4 ^ m
theorem cost_pos (m : Nat) : 20 ≤ cost m := by
  unfold cost
  have : 0 < 4 ^ m := Nat.pow_pos (by decide)
  omega
theorem cost_succ (m : Nat) : cost (m + 1) = 4 * cost m := by
  unfold cost
  rw [Nat.pow_succ]
  omega
theorem atC {xs : List Nat} {i : Int} (h0 : 0 ≤ i) (h1 : i < xs.length) : ∃ v, atI xs i = some v := by
  have hk : i.toNat < xs.length := by omega
  refine ⟨xs[i.toNat], ?_⟩
  unfold atI ixN
  rw [if_pos h0, if_pos h1]
  exact List.getElem?_eq_getElem hk
theorem ifT {c A B : Prop} [Decidable c] (hc : c) (h : A) : if decide c = true then A else B := by rw [decide_eq_true hc]; exact iteT h
theorem ifF {c A B : Prop} [Decidable c] (hc : ¬ c) (h : B) : if decide c = true then A else B := by rw [decide_eq_false hc]; exact iteF h
theorem ifBT {b : Bool} {A B : Prop} (hb : b = true) (h : A) : if b = true then A else B := by rw [if_pos hb]; exact h
theorem ifBF {b : Bool} {A B : Prop} (hb : b = false) (h : B) : if b = true then A else B := by rw [hb]; exact iteF h
theorem g_name {i : Nat} {v : V} {σ : L2.St} {H : Hp} {Q : L2.St → Hp → Prop} (h : Q (σ.set i (some v)) H) : gName i v σ H Q := h
theorem seq_cut {t1 t2 : TS} {D : Ends} {σ : L2.St} {H : Hp} (M : L2.St → Hp → Prop) (h2 : ∀ σ' H', M σ' H' → t2 D σ' H') (h1 : (∀ σ' H', M σ' H' → t2 D σ' H') → t1 { D with nx := t2 D } σ H) : tSeq t1 t2 D σ H := h1 h2
theorem flat_strs : ∀ ws : List Str, (ws.map V.str).all flatV = true
  | [] => rfl
  | x :: r => by rw [List.map_cons, List.all_cons, flat_strs r]; rfl
theorem inV_strs {x : Str} : ∀ {ws : List Str}, inV (.str x) (ws.map V.str) = true ↔ x ∈ ws
  | [] => by simp [inV]
  | y :: r => by
    have h := inV_strs (x := x) (ws := r)
    unfold inV at h ⊢
    rw [List.map_cons, List.any_cons, Bool.or_eq_true, h, List.mem_cons]
    show (y == x) = true ∨ _ ↔ _
    rw [beq_iff_eq]
    exact ⟨fun z => z.imp Eq.symm id, fun z => z.imp Eq.symm id⟩
theorem heads6_cases {x : Str} (h : x ∈ heads6) : x = "skip" ∨ x = "name" ∨ (∃ c, x = hTwo c) ∨ ∃ c, x = hApp c := by
  unfold heads6 at h
  simp only [List.mem_cons, List.not_mem_nil, or_false] at h
  rcases h with h | h | h | h | h | h
  · exact .inr (.inl h)
  · exact .inr (.inr (.inr ⟨false, h⟩))
  · exact .inr (.inr (.inr ⟨true, h⟩))
  · exact .inr (.inr (.inl ⟨false, h⟩))
  · exact .inr (.inr (.inl ⟨true, h⟩))
  · exact .inl h
theorem Keep.at {D : List Addr} {H H' : Hp} {a : Addr} {o : HO} (k : Keep D H H') (h : H a = some o) (n : a ∉ D) : H' a = some o := k a o h n
theorem Keep.is {D : List Addr} {H H' : Hp} {v : V} {d : Da} (k : Keep D H H') (n : NoTup D H) (h : Is H v d) : Is H' v d := h.mono (k.tups n)
theorem IsA.map_get {α : Type} {H : Hp} {f : α → Da} {vs : List V} {xs : List α} {i : Nat} {v : V} (h : IsA H vs (xs.map f)) (e : vs[i]? = some v) : ∃ x, xs[i]? = some x ∧ Is H v (f x) := by
  obtain ⟨d, h1, h2⟩ := h.getV e
  rw [List.getElem?_map] at h1
  obtain ⟨x, hx, rfl⟩ := Option.map_eq_some_iff.mp h1
  exact ⟨x, hx, h2⟩
end Nf

set_option Elab.async false
set_option linter.all false
set_option maxRecDepth 100000
namespace Nf
open PySem L2
theorem cut_whole {xs : List V} {lo hi : Option Int} (h : HT.sIx xs.length 0 lo = 0 ∧ HT.sIx xs.length xs.length hi = xs.length) : cutV xs lo hi = xs := by
  show (xs.drop (HT.sIx xs.length 0 lo)).take (HT.sIx xs.length xs.length hi - HT.sIx xs.length 0 lo) = xs
  rw [h.1, h.2, List.drop_zero, Nat.sub_zero, List.take_length]
theorem sl_any {K : PySem.W.Frag} {H : Hp} {a : Addr} {xs : List V} {lo hi : Option Int} {Q : VK} (h : H a = some (.tup xs)) (q : ∀ p H', Same H H' → H' p = some (.tup (cutV xs lo hi)) → Q (.ref p) H') : rSlA K (.ref a) lo hi H Q := by
  refine ⟨a, xs, rfl, SqT.of h, fun hw => q a H (Same.refl H) (by rw [cut_whole hw]; exact h), fun _ p hp => q p _ (same_new hp _) upd_same⟩
theorem cat_any {K : PySem.W.Frag} {H : Hp} {a b : Addr} {xs ys : List V} {Q : VK} (h : H a = some (.tup xs)) (h2 : H b = some (.tup ys)) (hz : xs.length + ys.length ≤ 100000) (q : ∀ p H', Same H H' → H' p = some (.tup (xs ++ ys)) → Q (.ref p) H') : rCatA K (.ref a) (.ref b) H Q := by
  refine ⟨a, b, xs, ys, rfl, rfl, SqT.of h, SqT.of h2, sz5 hz, fun e => ?_, fun _ e => ?_, fun _ _ p hp => q p _ (same_new hp _) upd_same⟩
  · subst e; exact q b H (Same.refl H) (by simpa using h2)
  · subst e; exact q a H (Same.refl H) (by simpa using h)
theorem cut_from1 {x : V} {xs : List V} : cutV (x :: xs) (some 1) none = xs := by
  show ((x :: xs).drop (HT.sIx (x :: xs).length 0 (some ((1 : Nat) : Int)))).take ((x :: xs).length - HT.sIx (x :: xs).length 0 (some ((1 : Nat) : Int))) = xs
  rw [HT.sIx_nat]
  have e : min 1 (x :: xs).length = 1 := by rw [List.length_cons]; omega
  rw [e, List.drop_succ_cons, List.drop_zero, List.length_cons, Nat.add_sub_cancel, List.take_length]
theorem cut_to1 {x : V} {xs : List V} : cutV (x :: xs) none (some 1) = [x] := by
  show ((x :: xs).drop 0).take (HT.sIx (x :: xs).length (x :: xs).length (some ((1 : Nat) : Int)) - 0) = [x]
  rw [HT.sIx_nat]
  have e : min 1 (x :: xs).length = 1 := by rw [List.length_cons]; omega
  rw [e]
  rfl
def Say.isApp : Say → Bool
  | .app _ _ _ => true
  | _ => false
def Say.isTwo : Say → Bool
  | .two _ _ _ => true
  | _ => false
theorem in_mc (s : Say) : inV (.str s.head) [.str "made", .str "call"] = s.isApp := by
  cases s with
  | app c _ _ => show inV (.str (hApp c)) _ = true; revert c; decide
  | two c _ _ => show inV (.str (hTwo c)) _ = false; revert c; decide
  | name x => show inV (.str "name") _ = false; decide
  | skip => show inV (.str "skip") _ = false; decide
theorem in_es (s : Say) : inV (.str s.head) [.str "either", .str "same"] = s.isTwo := by
  cases s with
  | app c _ _ => show inV (.str (hApp c)) _ = false; revert c; decide
  | two c _ _ => show inV (.str (hTwo c)) _ = true; revert c; decide
  | name x => show inV (.str "name") _ = false; decide
  | skip => show inV (.str "skip") _ = false; decide
theorem head_app {c : Bool} {w : Str} {ps : List Say} : (Say.app c w ps).head ≠ "name" := by
  show hApp c ≠ "name"; revert c; decide
theorem head_two {c : Bool} {a b : Say} : (Say.two c a b).head ≠ "name" := by
  show hTwo c ≠ "name"; revert c; decide
theorem head_skip : Say.skip.head ≠ "name" := by
  show ¬ (("skip" : Str) = "name"); decide
theorem at0 {x : V} {r : List V} : atI (x :: r) 0 = some x := at_of (j := 0) rfl rfl
/-- a list made of a tuple's (or list's) items, one by one, each by a call that leaves all as it was -/
theorem lc_map {α : Type} {J : It} {G : Hp → Prop} {xs : List V} (W : Walk J xs.length G (YAt xs)) {f g : α → Da} {ps : List α} {H1 : Hp} {Z : Addr} {i0 : Nat} {te : TE} {vs : List Nat} {σ : L2.St} {Qd : Hp → Prop}
    (hxs : IsA H1 xs (ps.map f)) (hG : ∀ H, Same H1 H → G H) (hlen : ps.length ≤ 90000) (hZ : H1 Z = none)
    (hw : ∀ x : V, wipe ((wipe σ vs).set i0 (some x)) vs = wipe σ vs)
    (turn : ∀ (i : Nat) (x : V) (p : α) (H2 : Hp) (Q : VK), ps[i]? = some p → Same H1 H2 → Is H2 x (f p) → (∀ y H4, Same H2 H4 → Is H4 y (g p) → Q y H4) → te ((wipe σ vs).set i0 (some x)) H2 Q)
    (done : ∀ (H2 : Hp) (us : List V), Same H1 H2 → H2 Z = some (.lst us) → IsA H2 us (ps.map g) → Qd H2) :
    ∃ W : Nat → Nat → Hp → Prop, (∃ m, W 0 m (upd H1 Z (.lst []))) ∧ ∀ i m H, W i m H →
      (J.stop i H ∧ Qd H) ∨ (J.go i H ∧ ∃ Nx : Hp → Prop, (∀ H', Nx H' → ∃ m', m' < m ∧ W (i + 1) m' H') ∧ ∀ x H', J.yld i H x H' → gName i0 x (wipe σ vs) H' fun σ2 H2 => wipe σ2 vs = wipe σ vs ∧ tYes σ2 H2 fun b H3 =>
        if b = true then te σ2 H3 fun y H4 => ∃ acc, H4 Z = some (.lst acc) ∧ acc.length < sizeLine ∧ Nx (upd H4 Z (.lst (acc ++ [y]))) else Nx H3) := by
  have hxl : xs.length = ps.length := by rw [hxs.len, List.length_map]
  refine lc_it W (fun i H' => ∃ us : List V, Same H1 H' ∧ H' Z = some (.lst us) ∧ IsA H' us ((ps.take i).map g)) ?_ ?_ ?_ ?_
  · exact ⟨[], same_new hZ _, upd_same, .nil⟩
  · rintro i H2 _ ⟨us, h, _⟩
    exact hG H2 h
  · rintro i x H2 H3 hi ⟨us, S2, hZ2, IA⟩ ⟨rfl, hx⟩
    obtain ⟨p, hp, hxp⟩ := hxs.map_get hx
    refine ⟨hw x, yes_if ?_⟩
    refine turn i x p _ _ hp S2 (hxp.mono S2.tups) fun y H4 S4 I4 => ?_
    have lus : us.length = i := by rw [IA.len, List.length_map, List.length_take]; omega
    refine ⟨us, S4 _ _ hZ2, sz5' (by omega), us ++ [y], (S2.trans S4).mutN hZ, upd_same, ?_⟩
    have N : TupS H4 (upd H4 Z (.lst (us ++ [y]))) := (TupS.refl H4).mutL (S4 _ _ hZ2)
    rw [List.take_add_one, hp, List.map_append]
    exact ((IA.mono S4.tups).mono N).app (.cons (I4.mono N) .nil)
  · rintro H2 ⟨us, S2, hZ2, IA⟩
    rw [hxl, List.take_length] at IA
    exact done H2 us S2 hZ2 IA
/-! ### filled -/
abbrev Fl := List (Str × Say)
mutual
def Say.fill (fs : Fl) : Say → Say
  | .name x => (fs.lookup x).getD (.name x)
  | .skip => .skip
  | .app c w ps => .app c w (Say.fillA fs ps)
  | .two c a b => .two c (Say.fill fs a) (Say.fill fs b)
def Say.fillA (fs : Fl) : List Say → List Say
  | [] => []
  | s :: r => Say.fill fs s :: Say.fillA fs r
end
theorem Say.fillA_map {fs : Fl} : ∀ ps : List Say, Say.fillA fs ps = ps.map (Say.fill fs)
  | [] => rfl
  | s :: r => by simp only [Say.fillA, List.map_cons, Say.fillA_map r]
theorem Say.fill_app {fs : Fl} {c : Bool} {w : Str} {ps : List Say} : (Say.app c w ps).fill fs = .app c w (ps.map (Say.fill fs)) := by simp only [Say.fill, Say.fillA_map]
theorem Say.fill_two {fs : Fl} {c : Bool} {a b : Say} : (Say.two c a b).fill fs = .two c (a.fill fs) (b.fill fs) := by simp only [Say.fill]
theorem Say.fill_skip {fs : Fl} : Say.skip.fill fs = .skip := by simp only [Say.fill]
theorem Say.fill_name {fs : Fl} {x : Str} : (Say.name x).fill fs = (fs.lookup x).getD (.name x) := by simp only [Say.fill]
def pairDa (p : Str × Say) : Da := .tup [.str p.1, p.2.da]
def flDa (fs : Fl) : Da := .tup (fs.map pairDa)
def Say.parts : Say → List Say
  | .app _ _ ps => ps
  | .two _ a b => [a, b]
  | _ => []
def Say.withP : Say → List Say → Say
  | .app c w _, ps => .app c w ps
  | .two c _ _, [a, b] => .two c a b
  | s, _ => s
theorem Say.fill_parts {fs : Fl} {s : Say} (h : s.head ≠ "name") : s.fill fs = s.withP (s.parts.map (Say.fill fs)) := by
  cases s with
  | name x => exact absurd rfl h
  | skip => simp only [Say.fill, Say.withP]
  | app c w ps => rw [Say.fill_app]; rfl
  | two c a b => rw [Say.fill_two]; rfl
theorem Say.ok_parts {f : Str → Prop} {n : Nat} {s : Say} (h : Say.ok f (n + 1) s) : ∀ p ∈ s.parts, Say.ok f n p := by
  cases s with
  | name x => intro p hp; cases hp
  | skip => intro p hp; cases hp
  | app c w ps => exact h.2.2
  | two c a b =>
    intro p hp
    simp only [Say.parts, List.mem_cons, List.not_mem_nil, or_false] at hp
    rcases hp with rfl | rfl
    · exact h.2.1
    · exact h.2.2
theorem Say.parts_le {f : Str → Prop} {n : Nat} {s : Say} (h : Say.ok f (n + 1) s) : s.parts.length ≤ 3 := by
  cases s with
  | name x => exact Nat.zero_le _
  | skip => exact Nat.zero_le _
  | app c w ps => exact h.2.1
  | two c a b => show 2 ≤ 3; decide
theorem is_pair {H : Hp} {v : V} {p : Str × Say} (h : Is H v (pairDa p)) : ∃ a y, v = .ref a ∧ H a = some (.tup [.str p.1, y]) ∧ Is H y p.2.da := by
  cases h with
  | @tup a xs _ h1 h2 =>
    cases h2 with
    | cons p1 q1 =>
      cases q1 with
      | cons p2 q2 =>
        cases q2; cases p1
        exact ⟨a, _, rfl, h1, p2⟩
theorem is_fl {H : Hp} {v : V} {fs : Fl} (h : Is H v (flDa fs)) : ∃ a xs, v = .ref a ∧ H a = some (.tup xs) ∧ IsA H xs (fs.map pairDa) := by
  cases h with
  | @tup a xs _ h1 h2 => exact ⟨a, xs, rfl, h1, h2⟩
/-- a dict of the fills -/
def DR (H : Hp) (kvs : List (Key × V)) (fs : Fl) : Prop := ∀ x : Str, (∀ s, fs.lookup x = some s → ∃ u, valV kvs (Sum.inr x) = some u ∧ Is H u s.da) ∧ (fs.lookup x = none → valV kvs (Sum.inr x) = none)
theorem DR.mono {H H' : Hp} {kvs : List (Key × V)} {fs : Fl} (d : DR H kvs fs) (k : TupS H H') : DR H' kvs fs := fun x =>
  ⟨fun s hs => let ⟨u, h1, h2⟩ := (d x).1 s hs; ⟨u, h1, h2.mono k⟩, (d x).2⟩
theorem DR.snoc {H : Hp} {kvs : List (Key × V)} {fs : Fl} {x : Str} {s : Say} {u : V} (d : DR H kvs fs) (hn : fs.lookup x = none) (h : Is H u s.da) : DR H (putK kvs (Sum.inr x) u) (fs ++ [(x, s)]) := fun y => by
  rw [List.lookup_append, valV_put]
  by_cases e : y = x
  · subst e
    rw [hn, if_pos rfl]
    have e1 : List.lookup y [(y, s)] = some s := by simp [List.lookup]
    rw [e1]
    exact ⟨fun s' hs' => by
      have : s = s' := by simpa using hs'
      subst this
      exact ⟨u, rfl, h⟩, fun z => by simp at z⟩
  · have e0 : (y == x) = false := beq_eq_false_iff_ne.mpr e
    have e1 : List.lookup y [(x, s)] = none := by simp only [List.lookup, e0]
    have e2 : ¬ (Sum.inr y : Key) = Sum.inr x := fun z => e (Sum.inr.inj z)
    rw [e1, if_neg e2, Option.or_none]
    exact d y
theorem put_len {kvs : List (Key × V)} {k : Key} {v : V} : (putK kvs k v).length ≤ kvs.length + 1 := by
  unfold putK
  split
  · rw [List.length_map]; omega
  · rw [List.length_append]; exact Nat.le_refl _
theorem lookup_none_of {fs : Fl} {x : Str} (h : x ∉ fs.map Prod.fst) : fs.lookup x = none := by
  induction fs with
  | nil => rfl
  | cons p r ih =>
    simp only [List.map_cons, List.mem_cons, not_or] at h
    obtain ⟨y, s⟩ := p
    have e : (x == y) = false := beq_eq_false_iff_ne.mpr h.1
    simp only [List.lookup, e]
    exact ih h.2
theorem nodup_take {fs : Fl} (h : (fs.map Prod.fst).Nodup) {i : Nat} {p : Str × Say} (hp : fs[i]? = some p) : p.1 ∉ (fs.take i).map Prod.fst := by
  intro hm
  have hi : i < fs.length := (List.getElem?_eq_some_iff.mp hp).1
  have hpi : fs[i] = p := (List.getElem?_eq_some_iff.mp hp).2
  rw [List.mem_map] at hm
  obtain ⟨q, hq, hqe⟩ := hm
  rw [List.mem_take_iff_getElem] at hq
  obtain ⟨j, hj, hjq⟩ := hq
  have hji : j < i := by omega
  have hjl : j < fs.length := by omega
  have e1 : (fs.map Prod.fst)[j]? = some p.1 := by
    rw [List.getElem?_map, List.getElem?_eq_getElem hjl]
    show some (fs[j].1) = some p.1
    rw [hjq, hqe]
  have e2 : (fs.map Prod.fst)[i]? = some p.1 := by rw [List.getElem?_map, hp]; rfl
  exact absurd (nd_ix h e1 e2) (by omega)
theorem Say.fill_ok {fs : Fl} {k : Nat} (hk : ∀ p ∈ fs, Say.ok (fun _ => True) k p.2) : ∀ {n : Nat} {s : Say}, Say.ok (fun _ => True) n s → Say.ok (fun _ => True) (n + k) (s.fill fs)
  | 0, _, h => h.elim
  | n + 1, .name x, _ => by
    rw [Say.fill_name]
    cases hl : fs.lookup x with
    | none =>
      show Say.ok _ (n + 1 + k) (.name x)
      rw [show n + 1 + k = (n + k) + 1 by omega]
      exact True.intro
    | some s =>
      obtain ⟨l1, l2, e, _⟩ := List.lookup_eq_some_iff.mp hl
      exact Say.ok_mono (by omega) (hk (x, s) (by rw [e]; simp))
  | n + 1, .skip, _ => by
    rw [Say.fill_skip, show n + 1 + k = (n + k) + 1 by omega]
    exact True.intro
  | n + 1, .app c w ps, h => by
    rw [Say.fill_app, show n + 1 + k = (n + k) + 1 by omega]
    refine ⟨True.intro, by rw [List.length_map]; exact h.2.1, fun p hp => ?_⟩
    obtain ⟨q, hq, rfl⟩ := List.mem_map.mp hp
    exact Say.fill_ok hk (h.2.2 q hq)
  | n + 1, .two c a b, h => by
    rw [Say.fill_two, show n + 1 + k = (n + k) + 1 by omega]
    exact ⟨True.intro, Say.fill_ok hk h.2.1, Say.fill_ok hk h.2.2⟩
mutual
theorem Say.fill_nil : ∀ s : Say, s.fill [] = s
  | .name x => by rw [Say.fill_name]; rfl
  | .skip => Say.fill_skip
  | .app c w ps => by simp only [Say.fill, Say.fillA_nil ps]
  | .two c a b => by simp only [Say.fill, Say.fill_nil a, Say.fill_nil b]
theorem Say.fillA_nil : ∀ ps : List Say, Say.fillA [] ps = ps
  | [] => rfl
  | s :: r => by simp only [Say.fillA, Say.fill_nil s, Say.fillA_nil r]
end
end Nf

set_option Elab.async false
set_option linter.all false
set_option maxRecDepth 100000
namespace Nf
open PySem PySem.Spec PyProof.Rows L2
/-! ### enumerate of a tuple -/
abbrev enumObj (n : Addr) : Obj := { cls := .type "enumerate", data := .fields #[.none, .bool false, .ref n, rawInt 0, .none, .none] }
abbrev titObj (t : Addr) : Obj := { cls := .type "tuple_iterator", data := .fields #[.ref t, .int 0 0] }
set_option maxHeartbeats 1000000 in
theorem meets_enumT (t : Addr) (its : Array Value) : Meets (Builtin.«enumerate.__new__» ⟨[.type "enumerate", .ref t], []⟩)
    (fun _ R s => s.heap.IsTuple t its ∧ R (.ok (.ret (.ref (s.heap.push (titObj t)).objs.size))) { s with heap := (s.heap.push (titObj t)).push (enumObj s.heap.objs.size) }) :=
  .of_wp fun prog w A R s h => by
    obtain ⟨hp, gg, dr, tk, os⟩ := s
    obtain ⟨ht, h⟩ := h
    have hsub := sub_enumerate
    have it1 : ∀ {A2 : Around} {E2 : Value → Shared → Prop} {Q2 : Value → Shared → Prop}, Q2 (.ref hp.objs.size) ⟨hp.push (titObj t), gg, dr, tk, os⟩ → wpAny (model prog w) A2 (pyIter (.ref t)) Q2 E2 ⟨hp, gg, dr, tk, os⟩ :=
      fun q => (begins_tuple t its).iter prog w _ _ ⟨hp, gg, dr, tk, os⟩ _ ht q
    wp_walk using it1
    refine wpAny_stack_any fun st => wpAny_pure ?_
    split
    · rename_i cc _ _ _ _ _
      cases (cc == Value.type "enumerate") <;> (wp_walk using it1; exact ⟨_, rfl, h⟩)
    · wp_walk using it1
      exact ⟨_, rfl, h⟩
theorem call_enumT {prog : Program} {w : World} {A : Around} {E : Value → Shared → Prop} {s : Shared} {t : Addr} {its : Array Value} {Q : Value → Shared → Prop} (ht : s.heap.IsTuple t its)
    (h : ∀ h', IsEnum h' (s.heap.objs.size + 1) s.heap.objs.size 0 .none → h'.IsTupleIter s.heap.objs.size t 0 → h'.objs.size = s.heap.objs.size + 2 →
      (∀ b o, s.heap.get? b = some o → h'.get? b = some o) → Q (.ref (s.heap.objs.size + 1)) { s with heap := h' }) :
    wpAny (model prog w) A (call (.type "enumerate") [.ref t]) Q E s := by
  have hz : (s.heap.push (titObj t)).objs.size = s.heap.objs.size + 1 := Heap.size_push ..
  refine callType_new F.called_enumerate (by decide) (F.typeCall_enumerate_1 _) (F.newCall_enumerate_1 _)
    (fun obj => F.args_object_init_2 obj _) F.entry_enumerate_new (meets_enumT t its) ⟨ht, ?_⟩
  have he : IsEnum ((s.heap.push (titObj t)).push (enumObj s.heap.objs.size)) (s.heap.objs.size + 1) s.heap.objs.size 0 .none := by
    have q := Heap.get?_push_size (s.heap.push (titObj t)) (o := enumObj s.heap.objs.size) rfl
    rw [hz] at q
    exact q
  show _ ∧ _
  rw [hz]
  exact ⟨⟨_, he, rfl⟩, h _ he ⟨_, Heap.get?_push_of_some _ (Heap.get?_push_size _ rfl), rfl, rfl⟩ (by rw [Heap.size_push, hz])
    fun b o x => Heap.get?_push_of_some _ (Heap.get?_push_of_some _ x)⟩
theorem next_enumT_end {prog : Program} {w : World} {A : Around} {E : Value → Shared → Prop} {s : Shared} {e it l : Addr} {i : Nat} {n : Int} {its : Array Value} {old : Value} {Q : Option Value → Shared → Prop}
    (hh : A.handled = none) (he : IsEnum s.heap e it n old) (hit : s.heap.IsTupleIter it l i) (hl : s.heap.IsTuple l its) (hx : its[i]? = none)
    (hQ : ∀ h', Heap.ExtBut it s.heap h' → Q none { s with heap := h' }) : wpAny (model prog w) A (pyNext (.ref e)) Q E s := by
  have ty : s.TypeIs (.ref e) "enumerate" := ⟨_, he, rfl⟩
  unfold pyNext
  refine wpAny_bind (wpAny_attempt ?_)
  refine wpAny_callSpecial?_slot (name := Str.ofString "__next__") ty F.slot_enumerate_next ?_
  refine wpAny_call_entry F.slot_enumerate_next ty F.entry_enumerate_next ?_ (F.args_enumerate_next_1 _)
  show wpAny _ _ (field (.ref e) 2 >>= _) _ _ s
  refine wpAny_bind (wpAny_field he rfl (x := .ref it) rfl ?_)
  refine wpAny_bind (wpAny_nextOf_tuple_end hh hit hl hx fun h' z hk hz => ?_)
  obtain ⟨oz, hoz, hcz⟩ := hz
  exact wpAny_bind (wpAny_isInstance (T := "StopIteration") (b := true) ⟨oz, hoz, hcz⟩ isSubtype_stop (wpAny_pure (hQ _ hk)))
/-- the tuple at a, each item in a new pair -/
def IteT (K : PySem.W.Frag) (a : Addr) : It where
  go := fun i H => ∃ (xs : List V) (x : V), SqT K H a xs ∧ xs[i]? = some x
  yld := fun i H v H' => ∃ T x, v = .ref T ∧ H T = none ∧ H' = upd H T (.tup [.int (i : Nat), x]) ∧ ∀ xs, SqT K H a xs → xs[i]? = some x
  stop := fun i H => ∃ xs : List V, SqT K H a xs ∧ xs.length ≤ i
theorem turn_enumT {P : Program} {w : World} {K : PySem.W.Frag} {elts : List Expr} {kk : Nat} {tpos : Pos} (a e it : Addr) (hae : a ≠ it) (hae2 : a ≠ e) :
    Turn P w K (.Tuple elts kk tpos) (IteT K a) [e, it] e (fun i h => (∃ old, IsEnum h e it ((i : Nat) : Int) old) ∧ h.IsTupleIter it a i ∧ e ≠ it) where
  mem := by simp
  obj := fun i h st b hb => by
    obtain ⟨⟨old, he⟩, ⟨o, ho, hc, hd⟩, _⟩ := st
    rcases (show b = e ∨ b = it by simpa using hb) with z | z
    · exact z ▸ ⟨_, he, fun v q => nomatch q⟩
    · exact z ▸ ⟨o, ho, fun v q => by rw [hd] at q; cases q⟩
  keep := fun i h h' st k => ⟨st.1.imp fun old he => k e (by simp) _ he, st.2.1.at fun o q => k it (by simp) o q, st.2.2⟩
  item := by
    intro X hP hw hK hc i pins s σ H E I hf st hg
    subst hP hw hK
    obtain ⟨⟨old, he⟩, hit, hne⟩ := st
    obtain ⟨xs, x, hq, hx⟩ := hg
    obtain ⟨its, rv, p, hz⟩ := I.tuple hq
    obtain ⟨u, hu, ru⟩ := rv.get hx
    have hel : e < s.heap.objs.size := Heap.lt_size he
    have hil : it < s.heap.objs.size := by obtain ⟨_, q, _⟩ := hit; exact Heap.lt_size q
    have hlt : i < its.toArray.size := by
      have := (List.getElem?_eq_some_iff.mp hu).1
      simpa using this
    have hef : e ∉ [it, a] := by
      intro m
      rcases (show e = it ∨ e = a by simpa using m) with z | z
      · exact hne z
      · exact hae2 z.symm
    refine wpAny_pyNext_enum_itemD (Draws.tuple (A := X.A.in1) (show X.A.in1.handled = none from I.ok.hd hc) it a hae its.toArray) he ⟨hit, p⟩ hlt hne hef fun y h' tk hy ho hit' hT hsz hk => ?_
    have ey : y = u := by
      have h1 : its[i]? = some y := by simpa using hy
      rw [hu] at h1
      exact (Option.some.inj h1).symm
    subst ey
    refine ⟨_, rfl, wpAny_letOwnedTupleGo_enum (s := { s with heap := h', toks := tk + 1 }) ho fun h'' he' sb => ?_⟩
    have hT2 : h''.get? s.heap.objs.size = some { cls := .type "tuple", data := .seq #[.int i tk, y] } := (sb.2 _ (Nat.ne_of_gt hel)).trans hT
    have new : ObjOk X.prog X.w (upd H s.heap.objs.size (.tup [.int (i : Nat), x])) h'' s.heap.objs.size (.tup [.int (i : Nat), x]) :=
      ⟨by show 2 ≤ sizeLine; decide, [.int i tk, y], .cons ⟨_, rfl⟩ (.cons ru .nil), ⟨_, hT2, rfl, _, rfl⟩⟩
    have I1 : Inv X pins σ (upd H s.heap.objs.size (.tup [.int (i : Nat), x])) { s with heap := h'', toks := tk + 1 } :=
      I.turnedNew (ch := [e, it]) (fun b ob hb q => by
        have nb : b ≠ e ∧ b ≠ it := by simpa using hb
        exact (sb.2 b nb.1).trans (hk b ob nb.1 nb.2 q)) hf (Nat.le_refl _) new
    refine ⟨.ref s.heap.objs.size, _, I1, rfl, ⟨_, x, rfl, I.hok.fresh (Nat.le_refl _), rfl, fun ys hy => by rw [I.tuple_inj hy hq]; exact hx⟩, ⟨⟨y, ?_⟩, hit'.1.at fun o q => (sb.2 it (Ne.symm hne)).trans q, hne⟩, fun b hb => ?_⟩
    · rw [show ((i + 1 : Nat) : Int) = (i : Int) + 1 by omega]
      exact he'
    · have hb' : b < s.heap.objs.size := by
        rcases (show b = e ∨ b = it by simpa using hb) with z | z
        · exact z ▸ hel
        · exact z ▸ hil
      rw [upd_ne (Nat.ne_of_lt hb')]
      exact (hf b hb).1
  done := by
    intro X hP hw hK hc i pins s σ H E I hf st hg
    subst hP hw hK
    obtain ⟨⟨old, he⟩, hit, hne⟩ := st
    obtain ⟨xs, hq, hx⟩ := hg
    obtain ⟨its, rv, p, hz⟩ := I.tuple hq
    obtain ⟨f0, f1, f2, f3, f4, f5⟩ := hf it (by simp)
    have hl := rv.length
    exact next_enumT_end (I.ok.hd hc) he hit p (by simp; omega) fun h' eb => ⟨rfl, I.turned (t' := s.toks) (fun b o hb q => eb b o hb q) f0 f1 f3 f4 f5⟩
  self := fun A i s Q E st h => by
    obtain ⟨⟨_, he⟩, _⟩ := st
    exact wpAny_pyIter_enum he h
def iEnumT (K : PySem.W.Frag) (ta : TA) : TI := fun σ H R => ta σ H fun vs H1 => ∃ a xs, vs = [.ref a] ∧ SqT K H1 a xs ∧ R (IteT K a) H1
theorem pi_enumT {X : Cx} {e : Expr} {ta : TA} {p pos tpos : Pos} {elts : List Expr} {kk : Nat} (hg : Gl X "enumerate") (hm : X.mg "enumerate" = none) (ha : PA X [e] ta)
    (hs : starEach [e] X.env = [(false, eval e X.env)] := by rfl) : PI X (.Tuple elts kk tpos) (.Call (.Name "enumerate" p) [e] [] pos) (iEnumT X.K ta) := by
  refine ⟨fun pins s σ H R I h => ?_⟩
  refine Call_ (ld_blt I hg hm boot_enumerate (callWith_type1 (thn (ha.run pos pins s σ H _ I h) fun us s1 ⟨vs, H1, I1, r1, q1⟩ => ?_) hs rfl))
  obtain ⟨a, xs, ex, hq, q⟩ := q1
  subst ex
  cases r1 with
  | cons r rr =>
    cases rr
    cases r
    obtain ⟨its, rv, pt, hz⟩ := I1.tuple hq
    have hal : a < s1.heap.objs.size := by
      obtain ⟨o, ho, _⟩ := id pt
      exact Heap.lt_size ho
    refine call_enumT (its := its.toArray) pt fun h' he hit hsz hk => wpAny_pyIter_enum he ?_
    have I2 : Inv X pins σ H1 { s1 with heap := h' } := I1.kept (t' := s1.toks) hk
    refine ⟨s1.heap.objs.size + 1, [s1.heap.objs.size + 1, s1.heap.objs.size], _, _, H1, rfl, I2, turn_enumT a (s1.heap.objs.size + 1) s1.heap.objs.size (Nat.ne_of_lt hal) (Nat.ne_of_lt (Nat.lt_succ_of_lt hal)), ⟨⟨.none, he⟩, hit, Nat.succ_ne_self _⟩, fun b hb => ?_, q⟩
    have hle : s1.heap.objs.size ≤ b := by
      rcases (show b = s1.heap.objs.size + 1 ∨ b = s1.heap.objs.size by simpa using hb) with z | z
      · exact z ▸ Nat.le_succ _
      · exact z ▸ Nat.le_refl _
    exact I1.fpOk hle (I1.hok.fresh hle)
theorem walk_enumT {K : PySem.W.Frag} {a : Addr} {xs : List V} : Walk (IteT K a) xs.length (fun H => SqT K H a xs) (YPair (fun i => some (.int (i : Nat))) (fun i => xs[i]?)) := by
  refine ⟨fun i _ hi q => ⟨xs, xs[i], q, by simp [hi]⟩, fun _ q => ⟨xs, q, Nat.le_refl _⟩, fun i H v H' _ q y => ?_⟩
  obtain ⟨T, x, h1, h2, h3, h4⟩ := y
  exact ⟨T, .int (i : Nat), x, h1, h2, h3, rfl, h4 xs q⟩
end Nf

set_option Elab.async false
set_option linter.all false
set_option maxRecDepth 100000
namespace Nf
open PySem PySem.Spec PyProof.Rows L2
/-! ### tuple of a dict's keys -/
section
variable {prog : Program} {w : World} {A : Around} {E : Value → Shared → Prop} {s : Shared} {r d : Addr} {n : Nat} {TT : String} {P : Nat → Value → Prop} {OK : Heap → Prop}
theorem code_tup_src {Q : Value → Shared → Prop} (S : PySem.W.KdlSrc prog w TT r d n P OK) (hh : A.handled = none) (hok : OK s.heap) (hn : n ≤ sizeLine)
    (h : ∀ (h' : Heap) (tk : Nat) (acc : Array Value), (∀ b o, s.heap.get? b = some o → h'.get? b = some o) → ItemsOf P acc n →
      Q (.ref h'.objs.size) { s with heap := h'.push { cls := .type "tuple", data := .seq acc }, toks := tk }) :
    codeAny (model prog w) A (.call (.builtin "tuple.__new__") ⟨[.type "tuple", .ref r], []⟩) (wants Q E) s := by
  refine codeAny_of_tree ?_
  show wpAny _ A.in1 (do
    checkBuiltinCall "tuple.__new__" ⟨[.type "tuple", .ref r], []⟩
    again (.builtin "tuple.__new__" ⟨[.type "tuple", .ref r], []⟩)) _ _ s
  refine wpAny_bind (wpAny_of_eq (F.newCall_tuple_1 _) ?_)
  refine wpAny_pure ⟨plainId_quiet F.plain_tuple_new _, codeAny_builtin F.entry_tuple_new ?_⟩
  rw [Around.under_plainId F.plain_tuple_new _]
  have s1 := sub_tuple_self
  have s2 := init_tuple_lookup
  have s3 := madeHere_tuple
  have ty := S.type s hok
  have nt : TT ≠ "tuple" := fun e => by
    have q := S.notTuple
    rw [e] at q
    exact absurd q (by decide)
  have nt2 := S.notTuple
  have hh1 : A.in1.handled = none := hh
  wp_walk using wpAny_typeOf ty, PySem.W.kdu_collect (A := A.in1) S hh1 hok hn
  intro h' tk acc hk hacc
  show wpAny _ _ (Builtin.Tuple.tupleExact acc.toList.toArray >>= fun v => ret v) _ _ _
  unfold Builtin.Tuple.tupleExact
  have e : acc.toList.toArray = acc := by simp
  rw [e]
  refine wpAny_bind (wpAny_newObj_type (wpAny_pure (h h' tk acc hk hacc)) ?_)
  show acc.size ≤ sizeLine
  rw [hacc.1]
  exact hn
theorem call_tup_src {Q : Value → Shared → Prop} (S : PySem.W.KdlSrc prog w TT r d n P OK) (hh : A.handled = none) (hok : OK s.heap) (hn : n ≤ sizeLine)
    (h : ∀ (h' : Heap) (tk : Nat) (acc : Array Value), (∀ b o, s.heap.get? b = some o → h'.get? b = some o) → ItemsOf P acc n →
      Q (.ref h'.objs.size) { s with heap := h'.push { cls := .type "tuple", data := .seq acc }, toks := tk }) :
    wpAny (model prog w) A (call (.type "tuple") [.ref r]) Q E s := by
  refine callType_codes (Q₁ := fun obj z => z.TypeIs obj "tuple" ∧ Q obj z) F.called_tuple (F.typeCall_tuple_1 _) F.entry_object_init ?_ fun obj z hz => ?_
  · exact code_tup_src (A := A.in1) S hh hok hn fun h' tk acc hk hacc => ⟨⟨_, Heap.get?_push_size _ rfl, rfl⟩, h h' tk acc hk hacc⟩
  · exact ⟨hz.1, F.args_object_init_2 obj _, object_init_meets F.called_tuple.init.lookup F.called_tuple.made (by decide) prog w A.in1 _ z ⟨hz.1, rfl, hz.2⟩⟩
end
def rTupD : List V → Hp → VK → Prop := fun xs H Q => ∃ p kvs, xs = [.ref p] ∧ H p = some (.dK kvs) ∧ ∀ q, H q = none → Q (.ref q) (upd H q (.tup (kvs.map fun kv => kV kv.1)))
theorem call_tup_dK {X : Cx} (hc : X.calm = true) : CallR X (.type "tuple") rTupD := by
  intro pins s σ H xs us Q I r h
  obtain ⟨p, kvs, rfl, hk, q⟩ := h
  obtain ⟨u, rfl, rx⟩ := vals1 r
  obtain rfl : u = Value.ref p := rx
  obtain ⟨z, lo, vs, rk, hd⟩ := (show ObjOk X.prog X.w H s.heap p (.dK kvs) from I.hok p _ hk)
  obtain ⟨ep, hat⟩ := hd.dictAt
  have hl : kvs.length = vs.length := Paired.length rk
  refine call_tup_src (PySem.W.kdl_dict (knd := mixKind X.prog X.w) (kvs := vs) (ep := ep) lo) (I.ok.hd hc) hat (hl ▸ z) fun h' tk acc hkeep hacc => ?_
  have I1 : Inv X pins σ H { s with heap := h', toks := tk } := I.kept (t' := tk) hkeep
  refine ⟨.ref h'.objs.size, upd H h'.objs.size (.tup (kvs.map fun kv => kV kv.1)), I1.laid (t' := tk) (fun b o e => Heap.get?_push_of_some _ e) (Nat.le_refl _) ?_, rfl, q _ (I1.hok.fresh (Nat.le_refl _))⟩
  refine (show ObjOk X.prog X.w _ _ _ (.tup (kvs.map fun kv => kV kv.1)) from ⟨by rw [List.length_map]; exact z, acc.toList, ?_, ?_⟩)
  · have el : acc.toList.length = acc.size := by simp
    refine vals_of_at (by rw [List.length_map, el, hacc.1, hl]) fun j x y h1 h2 => ?_
    obtain ⟨k, m, hky, hi⟩ := hacc.2 j y (by rw [← Array.getElem?_toList]; exact h2)
    have e1 : (kvs.map (·.1))[j]? = some k := by
      rw [KV.keys rk, List.getElem?_map, hky] <;> rfl
    rw [List.getElem?_map] at h1 e1
    obtain ⟨kv, hkv, rfl⟩ := Option.map_eq_some_iff.mp h1
    rw [hkv] at e1
    cases e1
    exact keyIs_rel hi
  · rw [Array.toArray_toList]
    exact IsTup.new _ _
/-! ### y = {k: v for ..} -/
section
variable {X : Cx}
theorem ps_setDc {i : Nat} {y : Str} {py : Pos} {kx vx tg iter : Expr} {ifs : List Expr} {scope : Scope} {own : List (Str × Nat)} {pos spos : Pos} {wi : TI} {g : TG} {tt : TT} {tk tv : TE}
    (hc : X.calm = true) (hN : X.N.Nodup) (hy : X.N[i]? = some y) (hyl : X.env.scope.names.lookup y = some .local)
    (hsw : swapsWith (.DictComp kx vx [⟨tg, iter, ifs, 0⟩] scope pos) (some (.Name y py)) spos.line X.env = pure true)
    (hi : PI X tg iter wi) (ok : BlkOk X.N X.env.scope scope own)
    (hg : ∀ (z : Shared) (H : Hp) (C : Addr) (cl : List (Str × Addr)) (fp : List Addr), PG (X.blk z H scope (compEnvC scope cl C X.env) fp) tg g)
    (ht : ∀ (z : Shared) (H : Hp) (C : Addr) (cl : List (Str × Addr)) (fp : List Addr), PTs (X.blk z H scope (compEnvC scope cl C X.env) fp) ifs tt)
    (hk : ∀ (z : Shared) (H : Hp) (C : Addr) (cl : List (Str × Addr)) (fp : List Addr), PE (X.blk z H scope (compEnvC scope cl C X.env) fp) kx tk)
    (he : ∀ (z : Shared) (H : Hp) (C : Addr) (cl : List (Str × Addr)) (fp : List Addr), PE (X.blk z H scope (compEnvC scope cl C X.env) fp) vx tv)
    (hs : ∀ x, foldedSetIterable iter X.env x = pure x := by intro _; rfl) :
    PS X (.Assign [.Name y py] (.DictComp kx vx [⟨tg, iter, ifs, 0⟩] scope pos) spos) (tAsg (tDc wi g tt tk tv (own.map (·.2))) (gName i)) := by
  refine ⟨fun pins s σ H D I h => ?_⟩
  rw [exec_Assign_Name_used _ _ _ _ hsw]
  refine wpAny_bind (wpAny_standAt (wpAny_bind ?_))
  show wpAny _ X.A (do
    let _ ← comprehension (.DictComp kx vx [⟨tg, iter, ifs, 0⟩] scope pos) scope X.env (firstIterPos [⟨tg, iter, ifs, 0⟩] pos) newDict false (eval iter X.env) (some (assign (.Name y py) X.env))) _ _ s
  have h' : tDc wi g tt tk tv (own.map (·.2)) σ H (fun x H1 => gName i x σ H1 D.nx) := h
  refine wpAny_bind (thn (dc_core (Qf := fun _ z => SP X pins D .next z) hc hN I hi ok hg ht hk he hs h' fun L C z m H' I' q hn f => ?_) fun _ z hq => wpAny_pure (wpAny_pure hq))
  show wpAny _ _ (assign (.Name y py) X.env (.ref L)) _ _ _
  refine wpAny_assign_Name (store_ok2 (v := V.ref L) I' hN hy (.inl hyl) rfl (fun z2 I2 ⟨a, sb, ha⟩ => ?_) (.inr hyl))
  obtain ⟨f0, f1, f2, f3, f4, f5⟩ := f
  have haC : C ≠ a := by
    rcases ha with e | e
    · exact e ▸ f1
    · exact fun e' => f4 y a e e'.symm
  exact ⟨m, hn.sameBut sb haC, fun h3 sb3 => ⟨_, H', I2.turned (t' := z2.toks) (fun b o hb e => (sb3.2 b hb).trans e) f0 f1 f3 f4 f5, q⟩⟩
theorem sw_trueD {kx vx : Expr} {gs : List Comprehension} {scope : Scope} {pos py : Pos} {y : Str} {l : Nat} {env : Env} (hk : env.scope.kind = .function) (hy : env.scope.names.lookup y = some .local) (hl : (py.line == pos.line) = true)
    (ha : (scope.names.any fun (n, k) => n == y && (k == .local || k == .cell)) = false) : swapsWith (.DictComp kx vx gs scope pos) (some (.Name y py)) l env = pure true := by
  have k1 : env.kindOf y = some .local := hy
  have k2 : env.blockKind = .function := by
    unfold Env.blockKind
    rw [hk]
    rfl
  unfold swapsWith
  simp only [k2, k1, ha, Expr.pos, hl]
  rfl
end
/-! ### xs != [] -/
def rNeNil (K : PySem.W.Frag) : R2 := fun x y H Q => ∃ a b xs, x = .ref a ∧ y = .ref b ∧ SqL K H a xs ∧ SqL K H b [] ∧ Q (.bl (!xs.isEmpty)) H
theorem op_ne_nil {X : Cx} (hu : X.A.units < cLine) : OpR X (compareOp .NotEq) (rNeNil X.K) := by
  intro pins s σ H x y v u Q I rx ry h
  obtain ⟨a, b, xs, rfl, rfl, ha, hb, q⟩ := h
  cases rx
  cases ry
  obtain ⟨i1, r1, p1, _⟩ := I.list ha
  obtain ⟨i2, r2, p2, _⟩ := I.list hb
  cases r2
  cases r1 with
  | nil => exact SeqAt.RcNeAt.lists (e := fun _ => true) p1.isList p2.isList rfl hu (fun j h1 _ => absurd h1 (by simp)) X.prog X.w _ _ ⟨.bl false, H, I, rfl, q⟩
  | cons r rr => exact SeqAt.RcNeAt.lists_lengths p1.isList p2.isList (by simp) hu X.prog X.w _ _ ⟨.bl true, H, I, rfl, q⟩
end Nf

set_option Elab.async false
set_option linter.all false
set_option maxRecDepth 100000
namespace Nf
open PySem L2
/-! ### a while with a ghost that falls -/
theorem while_g {α : Type} {c : TT} {tb : TS} {D : Ends} {σ : L2.St} {H : Hp} (Pv : α → L2.St → Hp → Prop) (μ : α → Nat) (x0 : α) (h0 : Pv x0 σ H)
    (hs : ∀ x σ H, Pv x σ H → c σ H fun b H1 => if b = true then ∃ N : L2.St → Hp → Prop, (∀ σ' H', N σ' H' → ∃ m', m' < μ x ∧ ∃ y, μ y = m' ∧ Pv y σ' H') ∧ tb { D with nx := N, ct := N, bk := D.nx } σ H1 else D.nx σ H1) : tWhile c tb D σ H := by
  refine ⟨fun m σ H => ∃ x, μ x = m ∧ Pv x σ H, ⟨_, x0, rfl, h0⟩, ?_⟩
  rintro m σ H ⟨x, rfl, p⟩
  exact hs x σ H p
theorem seq_in {t1 t2 : TS} {D : Ends} {σ : L2.St} {H : Hp} (h : t1 { D with nx := t2 D } σ H) : tSeq t1 t2 D σ H := h
theorem next_in {D : Ends} {σ : L2.St} {H : Hp} (h : D.nx σ H) : tNext D σ H := h
theorem stp_g {α : Type} {tb : TS} {D : Ends} {σ : L2.St} {H1 : Hp} {Pv : α → L2.St → Hp → Prop} {μ : α → Nat} {x : α}
    (h : tb { D with nx := fun σ' H' => ∃ y, μ y < μ x ∧ Pv y σ' H', ct := fun σ' H' => ∃ y, μ y < μ x ∧ Pv y σ' H', bk := D.nx } σ H1) :
    ∃ N : L2.St → Hp → Prop, (∀ σ' H', N σ' H' → ∃ m', m' < μ x ∧ ∃ y, μ y = m' ∧ Pv y σ' H') ∧ tb { D with nx := N, ct := N, bk := D.nx } σ H1 :=
  ⟨_, fun _ _ ⟨y, h1, h2⟩ => ⟨μ y, h1, y, rfl, h2⟩, h⟩
/-! ### nodes -/
abbrev Nd := List Int × Say
mutual
def Say.nod (p : List Int) : Say → List Nd
  | .name x => [(p, .name x)]
  | .skip => [(p, .skip)]
  | .app c w ps => (p, .app c w ps) :: Say.nodA p 0 ps
  | .two c a b => (p, .two c a b) :: (Say.nod (p ++ [0]) a ++ Say.nod (p ++ [1]) b)
def Say.nodA (p : List Int) (k : Nat) : List Say → List Nd
  | [] => []
  | s :: r => Say.nod (p ++ [(k : Int)]) s ++ Say.nodA p (k + 1) r
end
/-- the parts with their paths -/
def kids (p : List Int) : Nat → List Say → List Nd
  | _, [] => []
  | k, s :: r => (p ++ [(k : Int)], s) :: kids p (k + 1) r
def ndAll (st : List Nd) : List Nd := st.flatMap fun q => q.2.nod q.1
theorem nodA_kids (p : List Int) : ∀ (k : Nat) (ps : List Say), Say.nodA p k ps = ndAll (kids p k ps)
  | _, [] => by simp [Say.nodA, kids, ndAll]
  | k, s :: r => by
    simp only [Say.nodA, kids, ndAll, List.flatMap_cons]
    rw [nodA_kids p (k + 1) r]
    rfl
theorem nod_eq (p : List Int) (s : Say) : s.nod p = (p, s) :: ndAll (kids p 0 s.parts) := by
  cases s with
  | name x => simp [Say.nod, Say.parts, kids, ndAll]
  | skip => simp [Say.nod, Say.parts, kids, ndAll]
  | app c w ps => simp only [Say.nod, Say.parts, nodA_kids]
  | two c a b => simp [Say.nod, Say.parts, kids, ndAll]
theorem ndAll_cons {q : Nd} {r : List Nd} : ndAll (q :: r) = q :: ndAll (kids q.1 0 q.2.parts ++ r) := by
  show q.2.nod q.1 ++ ndAll r = _
  rw [nod_eq]
  unfold ndAll
  rw [List.flatMap_append]
  rfl
theorem kids_len (p : List Int) : ∀ (k : Nat) (ps : List Say), (kids p k ps).length = ps.length
  | _, [] => rfl
  | k, _ :: r => by simp only [kids, List.length_cons, kids_len p (k + 1) r]
theorem kids_get (p : List Int) : ∀ (k : Nat) (ps : List Say) (i : Nat), (kids p k ps)[i]? = (ps[i]?).map fun s => (p ++ [((k + i : Nat) : Int)], s)
  | _, [], i => by simp [kids]
  | k, s :: r, 0 => by simp [kids]
  | k, s :: r, i + 1 => by
    simp only [kids, List.getElem?_cons_succ, kids_get p (k + 1) r i]
    rw [show k + 1 + i = k + (i + 1) by omega]
theorem kids_mem {p : List Int} {k : Nat} {ps : List Say} {q : Nd} (h : q ∈ kids p k ps) : q.2 ∈ ps := by
  obtain ⟨i, hi⟩ := List.getElem?_of_mem h
  rw [kids_get] at hi
  obtain ⟨s, hs, rfl⟩ := Option.map_eq_some_iff.mp hi
  exact List.mem_of_getElem? hs
def ndDa (q : Nd) : Da := .tup [.tup (q.1.map Da.int), q.2.da]
def ndsDa (l : List Nd) : Da := .tup (l.map ndDa)
theorem is_nd {H : Hp} {v : V} {q : Nd} (h : Is H v (ndDa q)) : ∃ a b y xs, v = .ref a ∧ H a = some (.tup [.ref b, y]) ∧ H b = some (.tup xs) ∧ IsA H xs (q.1.map Da.int) ∧ Is H y q.2.da := by
  cases h with
  | @tup a xs _ h1 h2 =>
    cases h2 with
    | cons p1 q1 =>
      cases q1 with
      | cons p2 q2 =>
        cases q2
        cases p1 with
        | tup h3 h4 => exact ⟨a, _, _, _, rfl, h1, h3, h4, p2⟩
/-- how many nodes a saying has, told by its depth -/
theorem nod_len {f : Str → Prop} : ∀ {n : Nat} {s : Say} (p : List Int), Say.ok f n s → (s.nod p).length ≤ 4 ^ n
  | 0, _, _, h => h.elim
  | n + 1, s, p, h => by
    rw [nod_eq, List.length_cons]
    have h3 := Say.parts_le h
    have ho := Say.ok_parts h
    have key : ∀ (k : Nat) (ps : List Say), (∀ q ∈ ps, Say.ok f n q) → (ndAll (kids p k ps)).length ≤ ps.length * 4 ^ n := by
      intro k ps
      induction ps generalizing k with
      | nil => intro _; simp [kids, ndAll]
      | cons s r ih =>
        intro hq
        have e : ndAll (kids p k (s :: r)) = s.nod (p ++ [(k : Int)]) ++ ndAll (kids p (k + 1) r) := rfl
        rw [e, List.length_append, List.length_cons, Nat.succ_mul]
        have h1 := nod_len (p ++ [(k : Int)]) (hq s (by simp))
        have h2 := ih (k + 1) fun q hm => hq q (by simp [hm])
        omega
    have h1 := key 0 s.parts ho
    have h2 : s.parts.length * 4 ^ n ≤ 3 * 4 ^ n := Nat.mul_le_mul_right _ h3
    have h4 : 0 < 4 ^ n := Nat.pow_pos (by decide)
    rw [Nat.pow_succ]
    omega
/-- paths are no longer than the depth -/
theorem nod_dep {f : Str → Prop} : ∀ {n : Nat} {s : Say} (p : List Int), Say.ok f n s → ∀ q ∈ s.nod p, q.1.length < p.length + n ∧ Say.ok f n q.2
  | 0, _, _, h => h.elim
  | n + 1, s, p, h => by
    rw [nod_eq]
    intro q hq
    rcases List.mem_cons.mp hq with rfl | hq
    · exact ⟨by show p.length < p.length + (n + 1); omega, h⟩
    · unfold ndAll at hq
      obtain ⟨z, hz, hqz⟩ := List.mem_flatMap.mp hq
      have ho := Say.ok_parts h z.2 (kids_mem hz)
      obtain ⟨i, hi⟩ := List.getElem?_of_mem hz
      rw [kids_get] at hi
      obtain ⟨s', _, rfl⟩ := Option.map_eq_some_iff.mp hi
      have := nod_dep (n := n) _ ho q hqz
      rw [List.length_append] at this
      exact ⟨by have := this.1; simp at this; omega, Say.ok_mono (by omega) this.2⟩
theorem nds_dep {f : Str → Prop} {n : Nat} {s : Say} (h : Say.ok f n s) (hn : n ≤ 8) : Da.dep (2 * n + 4) (ndsDa (s.nod [])) := by
  unfold ndsDa
  refine ⟨?_, fun d hd => ?_⟩
  · rw [List.length_map]
    have h1 := nod_len [] h
    have h2 : 4 ^ n ≤ 4 ^ 8 := Nat.pow_le_pow_right (by decide) hn
    have h3 : 4 ^ 8 = 65536 := by decide
    omega
  · obtain ⟨q, hq, rfl⟩ := List.mem_map.mp hd
    obtain ⟨h1, h2⟩ := nod_dep [] h q hq
    refine ⟨by simp, fun d hd => ?_⟩
    simp at hd
    rcases hd with rfl | rfl
    · refine ⟨by rw [List.length_map]; simp at h1; omega, fun d hd => ?_⟩
      obtain ⟨i, _, rfl⟩ := List.mem_map.mp hd
      exact True.intro
    · exact Say.dep h2
/-! ### names, each once -/
def uadd (acc : List Str) (x : Str) : List Str := if x ∈ acc then acc else acc ++ [x]
def nmOf (q : Nd) : Option Str := match q.2 with
  | .name x => some x
  | _ => none
def ustep (acc : List Str) (q : Nd) : List Str := match nmOf q with
  | some x => uadd acc x
  | none => acc
def unames (l : List Nd) : List Str := l.foldl ustep []
theorem uadd_len (acc : List Str) (x : Str) : (uadd acc x).length ≤ acc.length + 1 := by
  unfold uadd
  split
  · omega
  · simp
theorem ustep_len (acc : List Str) (q : Nd) : (ustep acc q).length ≤ acc.length + 1 := by
  unfold ustep
  split
  · exact uadd_len _ _
  · omega
theorem unames_take {l : List Nd} {i : Nat} {q : Nd} (h : l[i]? = some q) : unames (l.take (i + 1)) = ustep (unames (l.take i)) q := by
  unfold unames
  rw [List.take_add_one, h]
  show List.foldl ustep [] (List.take i l ++ [q]) = _
  rw [List.foldl_append]
  rfl
theorem unames_len (l : List Nd) : (unames l).length ≤ l.length := by
  have key : ∀ (l : List Nd) (acc : List Str), (l.foldl ustep acc).length ≤ acc.length + l.length := by
    intro l
    induction l with
    | nil => intro acc; simp
    | cons q r ih =>
      intro acc
      have h1 := ih (ustep acc q)
      have h2 := ustep_len acc q
      simp only [List.foldl_cons, List.length_cons]
      omega
  have := key l []
  simpa [unames] using this
def strsDa (xs : List Str) : Da := .tup (xs.map Da.str)
theorem isA_strs {H : Hp} : ∀ xs : List Str, IsA H (xs.map V.str) (xs.map Da.str)
  | [] => .nil
  | x :: r => .cons (.str x) (isA_strs r)
theorem isA_ints {H : Hp} : ∀ xs : List Int, IsA H (xs.map V.int) (xs.map Da.int)
  | [] => .nil
  | x :: r => .cons (.int x) (isA_ints r)
theorem ints_of {H : Hp} : ∀ {vs : List V} {xs : List Int}, IsA H vs (xs.map Da.int) → vs = xs.map V.int
  | _, [], h => by cases h; rfl
  | _, x :: r, h => by
    cases h with
    | cons a b => cases a; rw [ints_of b]; rfl
theorem IsA.snoc_inv {H : Hp} : ∀ {ws : List V} {ds : List Da} {d : Da}, IsA H ws (ds ++ [d]) → ∃ ws0 w, ws = ws0 ++ [w] ∧ IsA H ws0 ds ∧ Is H w d
  | _, [], d, h => by
    cases h with
    | cons a b => cases b; exact ⟨[], _, rfl, .nil, a⟩
  | _, e :: r, d, h => by
    cases h with
    | @cons v vs _ _ a b =>
      obtain ⟨ws0, w, rfl, h1, h2⟩ := IsA.snoc_inv (ds := r) b
      exact ⟨v :: ws0, w, rfl, .cons a h1, h2⟩
theorem IsA.rev {H : Hp} : ∀ {ws : List V} {ds : List Da}, IsA H ws ds → IsA H ws.reverse ds.reverse
  | _, _, .nil => .nil
  | _, _, .cons a b => by
    rw [List.reverse_cons, List.reverse_cons]
    exact (IsA.rev b).app (.cons a .nil)
theorem ndAll_ge : ∀ st : List Nd, st.length ≤ (ndAll st).length
  | [] => Nat.zero_le _
  | q :: r => by
    have := ndAll_ge r
    have e : ndAll (q :: r) = q.2.nod q.1 ++ ndAll r := rfl
    rw [e, nod_eq, List.length_append, List.length_cons, List.length_cons]
    omega
def keyT (x : Str) : Key × V := (Sum.inr x, .bl true)
theorem put_keyT (us : List Str) (x : Str) : putK (us.map keyT) (Sum.inr x) (.bl true) = (uadd us x).map keyT := by
  have e1 : ((us.map keyT).any fun kv => decide (kv.1 = (Sum.inr x : Key))) = decide (x ∈ us) := by
    induction us with
    | nil => rfl
    | cons y r ih =>
      rw [List.map_cons, List.any_cons, ih]
      have e2 : decide ((keyT y).1 = (Sum.inr x : Key)) = decide (y = x) := by
        show decide ((Sum.inr y : Key) = Sum.inr x) = _
        exact key_rr y x
      rw [e2]
      by_cases h : y = x
      · subst h; simp
      · have h' : ¬ x = y := fun z => h z.symm
        simp [h, h']
  unfold putK uadd
  rw [e1]
  by_cases h : x ∈ us
  · rw [if_pos h, if_pos (decide_eq_true h), List.map_map]
    refine List.map_congr_left fun y _ => ?_
    show (if (keyT y).1 = (Sum.inr x : Key) then ((keyT y).1, V.bl true) else keyT y) = keyT y
    split <;> rfl
  · rw [if_neg h, if_neg (by simpa using h), List.map_append]
    rfl
end Nf

set_option Elab.async false
set_option linter.all false
set_option maxRecDepth 100000
namespace Nf
open PySem PySem.Spec PyProof.Rows L2
/-! ### list(zip(t, u)) of two tuples of one length -/
theorem zip_len_none : typeLookup (.type "zip") "__len__" = pure none := am_miss_of_fast (by decide +kernel)
theorem zip_hint_none : typeLookup (.type "zip") "__length_hint__" = pure none := am_miss_of_fast (by decide +kernel)
section
variable {prog : Program} {w : World} {A : Around} {E : Value → Shared → Prop} {s : Shared}
/-- next, while the pair given out before is still there -/
theorem zt_item {z TI TO T i j t u : Addr} {f : Bool} {oT : Obj} {k : Nat} {xs ys : Array Value} {x y : Value} {Q : Option Value → Shared → Prop} (D : ZipApart z TI TO i j t u)
    (hz : IsZipHeld s.heap z TI TO T f) (hT : s.heap.get? T = some oT) (hTI : IsPair s.heap TI (.ref i) (.ref j))
    (hi : s.heap.IsTupleIter i t k) (hj : s.heap.IsTupleIter j u k) (ht : s.heap.IsTuple t xs) (hu : s.heap.IsTuple u ys) (hx : xs[k]? = some x) (hy : ys[k]? = some y)
    (hQ : ∀ g, IsZipHeld g z TI TO T true → g.IsTupleIter i t (k + 1) → g.IsTupleIter j u (k + 1) → IsPair g s.heap.objs.size x y → g.objs.size = s.heap.objs.size + 1 →
      (∀ c o, c ≠ z → c ≠ i → c ≠ j → s.heap.get? c = some o → g.get? c = some o) → Q (some (.ref s.heap.objs.size)) { s with heap := g }) :
    wpAny (model prog w) A (pyNext (.ref z)) Q E s := by
  have ty : s.TypeIs (.ref z) "zip" := ⟨_, hz, rfl⟩
  unfold pyNext
  refine wpAny_bind (wpAny_attempt ?_)
  refine wpAny_callSpecial?_slot (name := Str.ofString "__next__") ty F.slot_zip_next ?_
  refine wpAny_call_entry F.slot_zip_next ty F.entry_zip_next ?_ (F.args_zip_next_1 _)
  show wpAny _ _ (field (.ref z) 2 >>= _) _ _ s
  refine wpAny_bind (wpAny_field hz rfl (x := .bool false) rfl ?_)
  show wpAny _ _ (field (.ref z) 3 >>= _) _ _ s
  refine wpAny_bind (wpAny_field hz rfl (x := .ref TI) rfl (wpAny_bind (wpAny_seqItems hTI rfl ?_)))
  show wpAny _ _ (Builtin.SmallTypes.ownedTupleIsFree (.ref z) >>= _) _ _ s
  refine wpAny_bind (wpAny_tupleHeld_zip hz hT fun g1 z1 s1 => ?_)
  simp only [Bool.false_eq_true, if_false]
  refine wpAny_bind ?_
  rw [← Array.forIn_toList]
  simp only [List.forIn_cons, List.forIn_nil]
  refine wpAny_bind (wpAny_bind (wpAny_holding ?_))
  show wpAny _ _ (Builtin.SmallTypes.nextOf (.ref i) >>= _) _ _ _
  refine wpAny_bind (wpAny_nextOf_tuple_item (s := { s with heap := g1 }) (hi.extBut s1.extBut D.i1z) (ht.extBut s1.extBut D.l1z) hx fun g2 i2 s2 => wpAny_pure (wpAny_pure ?_))
  refine wpAny_bind (wpAny_bind (wpAny_holding ?_))
  show wpAny _ _ (Builtin.SmallTypes.nextOf (.ref j) >>= _) _ _ _
  refine wpAny_bind (wpAny_nextOf_tuple_item (s := { s with heap := g2 }) ((hj.extBut s1.extBut D.i2z).extBut s2.extBut D.i12.symm) ((hu.extBut s1.extBut D.l2z).extBut s2.extBut D.l2i1) hy fun g3 j3 s3 => wpAny_pure (wpAny_pure (wpAny_pure ?_)))
  show wpAny _ _ (newTuple [x, y] >>= _) _ _ _
  refine wpAny_bind (wpAny_newTuple (wpAny_pure ⟨_, rfl, wpAny_pure ?_⟩))
  have sz : g3.objs.size = s.heap.objs.size := by rw [s3.1, s2.1, s1.1]
  have z3 : IsZipHeld g3 z TI TO T true := s3.extBut _ _ D.i2z.symm (s2.extBut _ _ D.i1z.symm z1)
  have kp : ∀ c o, c ≠ z → c ≠ i → c ≠ j → s.heap.get? c = some o → g3.get? c = some o := fun c o n1 n2 n3 e => s3.extBut _ _ n3 (s2.extBut _ _ n2 (s1.extBut _ _ n1 e))
  have i3 : g3.IsTupleIter i t (k + 1) := i2.extBut s3.extBut D.i12
  show Q (some (.ref g3.objs.size)) _
  have pr : IsPair (g3.push { cls := .type "tuple", data := .seq #[x, y] }) g3.objs.size x y := Heap.get?_push_size _ rfl
  have sz4 : (g3.push { cls := .type "tuple", data := .seq #[x, y] }).objs.size = g3.objs.size + 1 := Heap.size_push ..
  rw [sz] at pr sz4 ⊢
  exact hQ _ (Heap.get?_push_of_some _ z3) (i3.at fun o e => Heap.get?_push_of_some _ e) (j3.at fun o e => Heap.get?_push_of_some _ e) pr sz4
    fun c o n1 n2 n3 e => Heap.get?_push_of_some _ (kp c o n1 n2 n3 e)
theorem zt_end {z TI TO T i j t u : Addr} {f : Bool} {oT : Obj} {k : Nat} {xs : Array Value} {Q : Option Value → Shared → Prop} (hh : A.handled = none) (D : ZipApart z TI TO i j t u)
    (hz : IsZipHeld s.heap z TI TO T f) (hT : s.heap.get? T = some oT) (hTI : IsPair s.heap TI (.ref i) (.ref j))
    (hi : s.heap.IsTupleIter i t k) (ht : s.heap.IsTuple t xs) (hx : xs[k]? = none)
    (hQ : ∀ g, (∀ c o, c ≠ z → c ≠ i → c ≠ j → s.heap.get? c = some o → g.get? c = some o) → Q none { s with heap := g }) :
    wpAny (model prog w) A (pyNext (.ref z)) Q E s := by
  have ty : s.TypeIs (.ref z) "zip" := ⟨_, hz, rfl⟩
  unfold pyNext
  refine wpAny_bind (wpAny_attempt ?_)
  refine wpAny_callSpecial?_slot (name := Str.ofString "__next__") ty F.slot_zip_next ?_
  refine wpAny_call_entry F.slot_zip_next ty F.entry_zip_next ?_ (F.args_zip_next_1 _)
  show wpAny _ _ (field (.ref z) 2 >>= _) _ _ s
  refine wpAny_bind (wpAny_field hz rfl (x := .bool false) rfl ?_)
  show wpAny _ _ (field (.ref z) 3 >>= _) _ _ s
  refine wpAny_bind (wpAny_field hz rfl (x := .ref TI) rfl (wpAny_bind (wpAny_seqItems hTI rfl ?_)))
  show wpAny _ _ (Builtin.SmallTypes.ownedTupleIsFree (.ref z) >>= _) _ _ s
  refine wpAny_bind (wpAny_tupleHeld_zip hz hT fun g1 z1 s1 => ?_)
  simp only [Bool.false_eq_true, if_false]
  refine wpAny_bind ?_
  rw [← Array.forIn_toList]
  simp only [List.forIn_cons, List.forIn_nil]
  refine wpAny_bind (wpAny_bind (wpAny_holding ?_))
  show wpAny _ _ (Builtin.SmallTypes.nextOf (.ref i) >>= _) _ _ _
  refine wpAny_bind (wpAny_nextOf_tuple_end (s := { s with heap := g1 }) hh (hi.extBut s1.extBut D.i1z) (ht.extBut s1.extBut D.l1z) hx fun g2 e s2 he => ?_)
  obtain ⟨oz, hoz, hcz⟩ := he
  exact wpAny_bind (wpAny_isInstance (T := "StopIteration") (b := true) ⟨oz, hoz, hcz⟩ isSubtype_stop (wpAny_pure (hQ _ fun c o n1 n2 _ q => s2 _ _ n2 (s1.extBut _ _ n1 q))))
/-- the zip between two turns of the loop that fills the list S -/
structure ZSt (xs ys : Array Value) (z TI TO i j t u S : Addr) (k : Nat) (h : Heap) : Prop where
  st : (IsZip h z TI TO .none ∧ ∃ a b, IsPair h TO a b) ∨ ∃ T f oT, IsZipHeld h z TI TO T f ∧ h.get? T = some oT ∧ T ≠ z ∧ T ≠ i ∧ T ≠ j ∧ T ≠ S
  ti : IsPair h TI (.ref i) (.ref j)
  hi : h.IsTupleIter i t k
  hj : h.IsTupleIter j u k
  ht : h.IsTuple t xs
  hu : h.IsTuple u ys
structure ZG (xs ys : Array Value) (S : Addr) (h : Heap) (as : List Addr) : Prop where
  rise : as.Pairwise (· < ·)
  above : ∀ a ∈ as, S < a
  pairs : ∀ (m : Nat) (a : Addr), as[m]? = some a → ∃ x y, xs[m]? = some x ∧ ys[m]? = some y ∧ h.get? a = some { cls := .type "tuple", data := .seq #[x, y] }
theorem ZSt.up {xs ys : Array Value} {z TI TO i j t u S : Addr} {k : Nat} {h h' : Heap} (Z : ZSt xs ys z TI TO i j t u S k h) (nz : ∀ b ∈ [z, TI, TO, i, j, t, u], b ≠ S) (hk : ∀ b o, b ≠ S → h.get? b = some o → h'.get? b = some o) : ZSt xs ys z TI TO i j t u S k h' := by
  have n := fun b (hb : b ∈ [z, TI, TO, i, j, t, u]) => nz b hb
  refine ⟨?_, hk _ _ (n TI (by simp)) Z.ti, Z.hi.at fun o e => hk _ _ (n i (by simp)) e, Z.hj.at fun o e => hk _ _ (n j (by simp)) e, Z.ht.at fun o e => hk _ _ (n t (by simp)) e, Z.hu.at fun o e => hk _ _ (n u (by simp)) e⟩
  rcases Z.st with ⟨a, b, c, d⟩ | ⟨T, f, oT, a, b, c, d, e, g⟩
  · exact .inl ⟨hk _ _ (n z (by simp)) a, b, c, hk _ _ (n TO (by simp)) d⟩
  · exact .inr ⟨T, f, oT, hk _ _ (n z (by simp)) a, hk _ _ g b, c, d, e, g⟩
theorem zs_item {xs ys : Array Value} {z TI TO i j t u S : Addr} {k : Nat} {x y : Value} {Q : Option Value → Shared → Prop} (D : ZipApart z TI TO i j t u) (Z : ZSt xs ys z TI TO i j t u S k s.heap) (hS : S < s.heap.objs.size)
    (hlt : ∀ b ∈ [z, i, j], b < s.heap.objs.size) (hti : TI ≠ TO) (hx : xs[k]? = some x) (hy : ys[k]? = some y)
    (hQ : ∀ g, ZSt xs ys z TI TO i j t u S (k + 1) g → IsPair g s.heap.objs.size x y → g.objs.size = s.heap.objs.size + 1 →
      (∀ c o, c ≠ z → c ≠ TO → c ≠ i → c ≠ j → s.heap.get? c = some o → g.get? c = some o) → Q (some (.ref s.heap.objs.size)) { s with heap := g }) :
    wpAny (model prog w) A (pyNext (.ref z)) Q E s := by
  have nb : ∀ b ∈ [z, i, j], s.heap.objs.size ≠ b := fun b hb => Nat.ne_of_gt (hlt b hb)
  rcases Z.st with ⟨hz, a, b, hTO⟩ | ⟨T, f, oT, hz, hT, n1, n2, n3, n4⟩
  · refine RZ.pyNext_zipT_item D hz Z.ti hTO Z.hi Z.hj Z.ht Z.hu hx hy fun g z' TO' i' j' hT hsz hk => hQ g ⟨.inr ⟨_, false, _, z', hT, nb z (by simp), nb i (by simp), nb j (by simp), Nat.ne_of_gt hS⟩, ?_, i', j', ?_, ?_⟩ hT hsz hk
    · exact hk _ _ D.TIz D.TITO D.TIi1 D.TIi2 Z.ti
    · exact Z.ht.at fun o e => hk _ _ D.l1z D.l1TO D.l1i1 D.l1i2 e
    · exact Z.hu.at fun o e => hk _ _ D.l2z D.l2TO D.l2i1 D.l2i2 e
  · refine zt_item D hz hT Z.ti Z.hi Z.hj Z.ht Z.hu hx hy fun g z' i' j' hT' hsz hk => hQ g ⟨.inr ⟨T, true, oT, z', hk _ _ n1 n2 n3 hT, n1, n2, n3, n4⟩, ?_, i', j', ?_, ?_⟩ hT' hsz fun c o c1 _ c3 c4 e => hk c o c1 c3 c4 e
    · exact hk _ _ D.TIz D.TIi1 D.TIi2 Z.ti
    · exact Z.ht.at fun o e => hk _ _ D.l1z D.l1i1 D.l1i2 e
    · exact Z.hu.at fun o e => hk _ _ D.l2z D.l2i1 D.l2i2 e
theorem zs_end {xs ys : Array Value} {z TI TO i j t u S : Addr} {k : Nat} {Q : Option Value → Shared → Prop} (hh : A.handled = none) (D : ZipApart z TI TO i j t u) (Z : ZSt xs ys z TI TO i j t u S k s.heap) (hx : xs[k]? = none)
    (hQ : ∀ g, (∀ c o, c ≠ z → c ≠ TO → c ≠ i → c ≠ j → s.heap.get? c = some o → g.get? c = some o) → Q none { s with heap := g }) : wpAny (model prog w) A (pyNext (.ref z)) Q E s := by
  rcases Z.st with ⟨hz, a, b, hTO⟩ | ⟨T, f, oT, hz, hT, _⟩
  · exact RZ.pyNext_zipT_end hh D hz Z.ti hTO Z.hi Z.hj Z.ht Z.hu (.inl hx) hQ
  · exact zt_end hh D hz hT Z.ti Z.hi Z.ht hx fun g hk => hQ g fun c o c1 _ c3 c4 e => hk c o c1 c3 c4 e
end
section
variable {prog : Program} {w : World} {A : Around} {s : Shared} {R : Result → Shared → Prop} {xs ys : Array Value} {z TI TO i j t u S : Addr}
theorem zs_loop (hh : A.handled = none) (D : ZipApart z TI TO i j t u) (hlo : ∀ b ∈ [z, TI, TO, i, j, t, u], b < S) (hxy : xs.size = ys.size) (hn : xs.size ≤ sizeLine) (res : Value) {h0 : Heap}
    (hR : ∀ g tk acc c as, (∀ b o, b ≠ S → b ≠ z → b ≠ TO → b ≠ i → b ≠ j → h0.get? b = some o → g.get? b = some o) → g.get? S = some { cls := .type "list", dict := none, data := .seq acc c, slots := #[] } → as.length = xs.size → ZG xs ys S g as →
      acc.toList = as.map Value.ref → R (.ok (.ret res)) { s with heap := g, toks := tk }) :
    ∀ (n k : Nat) (h : Heap) (tk c : Nat) (acc : Array Value) (as : List Addr), xs.size - k = n → k ≤ xs.size → ZSt xs ys z TI TO i j t u S k h → (∀ b o, b ≠ S → b ≠ z → b ≠ TO → b ≠ i → b ≠ j → h0.get? b = some o → h.get? b = some o) →
      h.get? S = some { cls := .type "list", dict := none, data := .seq acc c, slots := #[] } → acc.toList = as.map Value.ref → as.length = k → ZG xs ys S h as →
      codeAny (model prog w) A (.builtin "list.extend.loop" ⟨[.ref S, .ref z, res], []⟩) R { s with heap := h, toks := tk } := by
  have nS : ∀ b ∈ [z, TI, TO, i, j, t, u], b ≠ S := fun b hb => Nat.ne_of_lt (hlo b hb)
  have zS := nS z (by simp)
  intro n
  induction n with
  | zero =>
    intro k h tk c acc as hnk hk Z kp hS hacc hal G
    refine codeAny_builtin F.entry_extend_loop ?_
    rw [Around.under_plainId F.plain_extend_loop _]
    show wpAny _ A.in1 (pyNext (.ref z) >>= _) _ _ _
    refine wpAny_bind (zs_end (s := { s with heap := h, toks := tk }) (A := A.in1) hh D Z (Array.getElem?_eq_none (by omega)) fun g hk' => ?_)
    have off : ∀ b o, S < b → h.get? b = some o → g.get? b = some o := fun b o hb e =>
      hk' b o (Nat.ne_of_gt (Nat.lt_trans (hlo z (by simp)) hb)) (Nat.ne_of_gt (Nat.lt_trans (hlo TO (by simp)) hb)) (Nat.ne_of_gt (Nat.lt_trans (hlo i (by simp)) hb)) (Nat.ne_of_gt (Nat.lt_trans (hlo j (by simp)) hb)) e
    refine wpAny_pure (hR g tk acc c as (fun b o b1 b2 b3 b4 b5 e => hk' b o b2 b3 b4 b5 (kp b o b1 b2 b3 b4 b5 e)) (hk' S _ (Ne.symm zS) (Ne.symm (nS TO (by simp))) (Ne.symm (nS i (by simp))) (Ne.symm (nS j (by simp))) hS) (by omega) ⟨G.rise, G.above, fun m a hm => ?_⟩ hacc)
    obtain ⟨x, y, e1, e2, e3⟩ := G.pairs m a hm
    exact ⟨x, y, e1, e2, off a _ (G.above a (List.mem_of_getElem? hm)) e3⟩
  | succ n ih =>
    intro k h tk c acc as hnk hk Z kp hS hacc hal G
    have hlt : k < xs.size := by omega
    have hx : xs[k]? = some xs[k] := by simp [hlt]
    have hy : ys[k]? = some (ys[k]'(by omega)) := by simp [show k < ys.size by omega]
    have hsz : acc.size = k := by rw [← Array.length_toList, hacc, List.length_map, hal]
    have hSl : S < h.objs.size := Heap.lt_size hS
    refine codeAny_builtin F.entry_extend_loop ?_
    rw [Around.under_plainId F.plain_extend_loop _]
    show wpAny _ A.in1 (pyNext (.ref z) >>= _) _ _ _
    refine wpAny_bind (zs_item (s := { s with heap := h, toks := tk }) D Z hSl (fun b hb => Nat.lt_trans (hlo b (by simp at hb ⊢; rcases hb with h | h | h <;> simp [h])) hSl) D.TITO hx hy fun g Z' hp hz hk' => ?_)
    dsimp only at hp hz hk' ⊢
    have hS' := hk' S _ (Ne.symm zS) (Ne.symm (nS TO (by simp))) (Ne.symm (nS i (by simp))) (Ne.symm (nS j (by simp))) hS
    have up : ∀ b o, b ≠ S → g.get? b = some o → (g.update S (Obj.mapSeq (·.push (Value.ref h.objs.size)))).get? b = some o := fun b o hb e => (Heap.get?_update_other _ _ (Ne.symm hb)).trans e
    have off : ∀ b o, S < b → h.get? b = some o → g.get? b = some o := fun b o hb e =>
      hk' b o (Nat.ne_of_gt (Nat.lt_trans (hlo z (by simp)) hb)) (Nat.ne_of_gt (Nat.lt_trans (hlo TO (by simp)) hb)) (Nat.ne_of_gt (Nat.lt_trans (hlo i (by simp)) hb)) (Nat.ne_of_gt (Nat.lt_trans (hlo j (by simp)) hb)) e
    have there : ∀ a ∈ as, a < h.objs.size := fun a ha => by
      obtain ⟨m, hm⟩ := List.mem_iff_getElem?.mp ha
      obtain ⟨_, _, _, _, e⟩ := G.pairs m a hm
      exact Heap.lt_size e
    show wpAny _ A.in1 (updateSeq S (·.push (Value.ref h.objs.size)) >>= _) _ _ _
    refine wpAny_bind ?_
    refine wpAny_updateSeq hS' rfl (wpAny_pure ⟨plainId_quiet F.plain_extend_loop _, ih (k + 1) _ tk _ (acc.push (Value.ref h.objs.size)) (as ++ [h.objs.size]) (by omega) hlt (Z'.up nS up)
      (fun b o b1 b2 b3 b4 b5 e => up b o b1 (hk' b o b2 b3 b4 b5 (kp b o b1 b2 b3 b4 b5 e))) (Heap.get?_update_self _ hS' rfl) (by rw [Array.toList_push, hacc, List.map_append]; rfl) (by rw [List.length_append, hal]; rfl) ⟨?_, ?_, ?_⟩⟩) (by rw [hsz]; omega) (by show (acc.push (Value.ref h.objs.size)).size ≤ sizeLine + 1; rw [Array.size_push, hsz]; omega)
    · refine List.pairwise_append.mpr ⟨G.rise, List.pairwise_singleton _ _, fun a ha b hb => ?_⟩
      exact List.mem_singleton.mp hb ▸ there a ha
    · intro a ha
      rcases List.mem_append.mp ha with ha | ha
      · exact G.above a ha
      · exact List.mem_singleton.mp ha ▸ hSl
    · intro m b hm
      by_cases h1 : m < as.length
      · rw [List.getElem?_append_left h1] at hm
        obtain ⟨x', y', e1, e2, e3⟩ := G.pairs m b hm
        have hb := G.above b (List.mem_of_getElem? hm)
        exact ⟨x', y', e1, e2, up b _ (Nat.ne_of_gt hb) (off b _ hb e3)⟩
      · rw [List.getElem?_append_right (by omega)] at hm
        have h2 : m - as.length = 0 := by
          have := (List.getElem?_eq_some_iff.mp hm).1
          simp at this
          omega
        have h3 : m = k := by omega
        rw [h2] at hm
        have hb : h.objs.size = b := by simpa using hm
        subst hb h3
        exact ⟨_, _, hx, hy, up _ _ (Nat.ne_of_gt hSl) hp⟩
theorem zs_extend (hh : A.handled = none) (D : ZipApart z TI TO i j t u) (hlo : ∀ b ∈ [z, TI, TO, i, j, t, u], b < S) (hxy : xs.size = ys.size) (hn : xs.size ≤ sizeLine) (res : Value) (c0 : Nat)
    (Z : ZSt xs ys z TI TO i j t u S 0 s.heap) (hz : IsZip s.heap z TI TO .none) (hS : s.heap.get? S = some { cls := .type "list", data := .seq #[] c0 })
    (hR : ∀ g tk acc c as, (∀ b o, b ≠ S → b ≠ z → b ≠ TO → b ≠ i → b ≠ j → s.heap.get? b = some o → g.get? b = some o) → g.get? S = some { cls := .type "list", dict := none, data := .seq acc c, slots := #[] } → as.length = xs.size → ZG xs ys S g as →
      acc.toList = as.map Value.ref → R (.ok (.ret res)) { s with heap := g, toks := tk }) :
    wpAny (model prog w) A.in1 (Builtin.List.listExtendWith (.ref S) (.ref z) res)
      (fun fin q => match fin with | .done f => R (.ok f) q | .again c => c.quiet = true ∧ codeAny (model prog w) A c R q) (fun e q => R (.error e) q) s := by
  have nS : ∀ b ∈ [z, TI, TO, i, j, t, u], b ≠ S := fun b hb => Nat.ne_of_lt (hlo b hb)
  have hSz : S ≠ z := Ne.symm (nS z (by simp))
  have ty : s.TypeIs (.ref z) "zip" := ⟨_, hz, rfl⟩
  unfold Builtin.List.listExtendWith
  refine wpAny_bind (wpAny_typeOf ty ?_)
  have b1 : Builtin.List.listSameRef (.ref S) (.ref z) = false := by simp [Builtin.List.listSameRef, hSz]
  have b2 : (Value.type "zip" == Value.type "list") = false := by decide
  have b3 : (Value.type "zip" == Value.type "tuple") = false := by decide
  simp only [b1, b2, b3, Bool.or_false, Bool.false_eq_true, if_false]
  refine wpAny_bind (wpAny_pyIter_zip hz ?_)
  refine wpAny_bind (wpAny_holding ?_)
  unfold Builtin.List.listLengthHint
  refine wpAny_bind (wpAny_specialOf ty zip_len_none ?_)
  show wpAny _ A.in1 (specialOf (Value.ref z) (Str.ofString "__length_hint__") >>= _) _ _ s
  refine wpAny_bind (wpAny_specialOf ty zip_hint_none (wpAny_pure ?_))
  show wpAny _ A.in1 (rule "list.extend.makes-room" >>= fun _ => Builtin.List.listTouch (.ref S) >>= fun _ =>
    again (.builtin "list.extend.loop" ⟨[.ref S, .ref z, res], []⟩)) _ _ s
  refine wpAny_bind (wpAny_rule (wpAny_bind ?_))
  show wpAny _ A.in1 (updateSeq S (·.push .none) >>= fun _ => updateSeq S (·.pop)) _ _ s
  refine wpAny_bind (wpAny_updateSeq hS rfl ?_)
  have S2 := Heap.get?_update_self (Obj.mapSeq (·.push Value.none)) hS rfl
  refine wpAny_updateSeq (hz := by seq_fits) S2 rfl ?_
  have S3 := Heap.get?_update_self (Obj.mapSeq (·.pop)) S2 rfl
  have oth : ∀ b o, b ≠ S → s.heap.get? b = some o → ((s.heap.update S (Obj.mapSeq (·.push Value.none))).update S (Obj.mapSeq (·.pop))).get? b = some o :=
    fun b o hb e => (Heap.get?_update_other _ _ (Ne.symm hb)).trans ((Heap.get?_update_other _ _ (Ne.symm hb)).trans e)
  refine wpAny_pure ⟨plainId_quiet F.plain_extend_loop _, zs_loop (h0 := s.heap) hh D hlo hxy hn res hR xs.size 0 _ s.toks _ #[] [] (Nat.sub_zero _) (Nat.zero_le _) (Z.up nS oth) (fun b o b1 _ _ _ _ e => oth b o b1 e) S3 rfl rfl ⟨List.Pairwise.nil, (fun _ ha => nomatch ha), (fun m a hm => by simp at hm)⟩⟩
theorem zs_init (hh : A.handled = none) (D : ZipApart z TI TO i j t u) (hlo : ∀ b ∈ [z, TI, TO, i, j, t, u], b < S) (hxy : xs.size = ys.size) (hn : xs.size ≤ sizeLine)
    (Z : ZSt xs ys z TI TO i j t u S 0 s.heap) (hz : IsZip s.heap z TI TO .none) (hS : s.heap.get? S = some { cls := .type "list", data := .seq #[] })
    (hR : ∀ g tk acc c as, (∀ b o, b ≠ S → b ≠ z → b ≠ TO → b ≠ i → b ≠ j → s.heap.get? b = some o → g.get? b = some o) → g.get? S = some { cls := .type "list", dict := none, data := .seq acc c, slots := #[] } → as.length = xs.size → ZG xs ys S g as →
      acc.toList = as.map Value.ref → R (.ok (.ret .none)) { s with heap := g, toks := tk }) :
    wpAny (model prog w) A.in1 (Builtin.«list.__init__» ⟨[.ref S, .ref z], []⟩)
      (fun fin q => match fin with | .done f => R (.ok f) q | .again c => c.quiet = true ∧ codeAny (model prog w) A c R q) (fun e q => R (.error e) q) s := by
  have nS : ∀ b ∈ [z, TI, TO, i, j, t, u], b ≠ S := fun b hb => Nat.ne_of_lt (hlo b hb)
  show wpAny _ A.in1 (do
    let old ← Builtin.List.listItems (.ref S)
    Builtin.List.listUpdate (.ref S) (fun _ => #[])
    letGo old.toList.reverse
    Builtin.List.listExtendWith (.ref S) (.ref z) .none) _ _ s
  refine wpAny_bind ?_
  unfold Builtin.List.listItems
  refine wpAny_bind (wpAny_seqItems hS rfl (wpAny_pure ?_))
  show wpAny _ A.in1 (updateSeq S (fun _ => #[]) >>= fun _ => letGo (#[] : Array Value).toList.reverse >>= fun _ => Builtin.List.listExtendWith (.ref S) (.ref z) .none) _ _ s
  refine wpAny_bind (wpAny_updateSeq hS rfl ?_)
  have S2 := Heap.get?_update_self (Obj.mapSeq (fun _ => (#[] : Array Value))) hS rfl
  have oth : ∀ b o, b ≠ S → s.heap.get? b = some o → (s.heap.update S (Obj.mapSeq (fun _ => (#[] : Array Value)))).get? b = some o := fun b o hb e => (Heap.get?_update_other _ _ (Ne.symm hb)).trans e
  refine wpAny_bind (wpAny_letGo ?_)
  exact zs_extend hh D hlo hxy hn .none _ (Z.up nS oth) (oth _ _ (nS z (by simp)) hz) S2 fun g tk acc c as hk hS' hl hG hacc => hR g tk acc c as (fun b o b1 b2 b3 b4 b5 e => hk b o b1 b2 b3 b4 b5 (oth b o b1 e)) hS' hl hG hacc
end
theorem call_list_zipT {prog : Program} {w : World} {A : Around} {E : Value → Shared → Prop} {s : Shared} {xs ys : Array Value} {z TI TO i j t u : Addr} {Q : Value → Shared → Prop}
    (hh : A.handled = none) (D : ZipApart z TI TO i j t u) (hlo : ∀ b ∈ [z, TI, TO, i, j, t, u], b < s.heap.objs.size) (hxy : xs.size = ys.size) (hn : xs.size ≤ sizeLine)
    (hz : IsZip s.heap z TI TO .none) (hti : IsPair s.heap TI (.ref i) (.ref j)) (hto : IsPair s.heap TO .none .none) (hi : s.heap.IsTupleIter i t 0) (hj : s.heap.IsTupleIter j u 0) (ht : s.heap.IsTuple t xs) (hu : s.heap.IsTuple u ys)
    (hQ : ∀ g tk acc c as, (∀ b o, b ≠ z → b ≠ TO → b ≠ i → b ≠ j → s.heap.get? b = some o → g.get? b = some o) → g.get? s.heap.objs.size = some { cls := .type "list", dict := none, data := .seq acc c, slots := #[] } → as.length = xs.size → ZG xs ys s.heap.objs.size g as →
      acc.toList = as.map Value.ref → Q (.ref s.heap.objs.size) { s with heap := g, toks := tk }) :
    wpAny (model prog w) A (call (.type "list") [.ref z]) Q E s := by
  refine callType_codes (Q₁ := fun obj q => obj = .ref s.heap.objs.size ∧ q = { s with heap := s.heap.push { cls := .type "list", data := .seq #[] } }) F.called_list (F.typeCall_list_1 _) F.entry_list_init
    (code_list_new _ ⟨rfl, rfl⟩) fun obj q hq => ?_
  obtain ⟨rfl, rfl⟩ := hq
  have hS : (s.heap.push { cls := .type "list", data := .seq #[] }).get? s.heap.objs.size = some { cls := .type "list", data := .seq #[] } := Heap.get?_push_size _ rfl
  have ps : ∀ b o, s.heap.get? b = some o → (s.heap.push { cls := .type "list", data := .seq #[] }).get? b = some o := fun b o e => Heap.get?_push_of_some _ e
  refine ⟨⟨_, hS, rfl⟩, F.args_list_init_2 _ _, ?_⟩
  refine zs_init (A := A.in1) hh D hlo hxy hn ⟨.inl ⟨ps _ _ hz, _, _, ps _ _ hto⟩, ps _ _ hti, hi.at fun o e => ps _ _ e, hj.at fun o e => ps _ _ e, ht.at fun o e => ps _ _ e, hu.at fun o e => ps _ _ e⟩ (ps _ _ hz) hS fun g tk acc c as hk hS' hl hG hacc => ?_
  exact ⟨rfl, hQ g tk acc c as (fun b o b2 b3 b4 b5 e => hk b o (Nat.ne_of_lt (Heap.lt_size e)) b2 b3 b4 b5 (ps _ _ e)) hS' hl hG hacc⟩
end Nf

set_option Elab.async false
set_option linter.all false
set_option maxRecDepth 100000
namespace Nf
open PySem PySem.Spec PyProof.Rows L2
/-! ### list(zip(t, u)): the rule -/
def putP : Hp → List Addr → List (V × V) → Hp
  | H, a :: as, p :: ps => putP (upd H a (.tup [p.1, p.2])) as ps
  | H, _, _ => H
theorem putP_off {b : Addr} : ∀ (as : List Addr) (ps : List (V × V)) (H : Hp), b ∉ as → putP H as ps b = H b
  | [], _, _, _ => rfl
  | _ :: _, [], _, _ => rfl
  | a :: as, p :: ps, H, h => by
    have h' : ¬ b = a ∧ b ∉ as := by simpa using h
    show putP (upd H a (.tup [p.1, p.2])) as ps b = H b
    rw [putP_off as ps _ h'.2, upd_ne h'.1]
abbrev PrR (H : Hp) (a : Addr) (p : V × V) : Prop := H a = some (.tup [p.1, p.2])
theorem putP_at : ∀ (as : List Addr) (ps : List (V × V)) (H : Hp), as.length = ps.length → as.Nodup → Paired (PrR (putP H as ps)) as ps
  | [], [], _, _, _ => .nil
  | [], _ :: _, _, h, _ => by cases h
  | _ :: _, [], _, h, _ => by cases h
  | a :: as, p :: ps, H, h, hn => by
    have hn' := List.nodup_cons.mp hn
    refine .cons ?_ (putP_at as ps (upd H a (.tup [p.1, p.2])) (Nat.succ.inj h) hn'.2)
    show putP (upd H a (.tup [p.1, p.2])) as ps a = some (.tup [p.1, p.2])
    rw [putP_off as ps _ hn'.1, upd_same]
theorem pairs_laid {X : Cx} {pins : List (Addr × Obj)} {σ : L2.St} {H : Hp} {s : Shared} {g : Heap} {tk : Nat} {xs ys : List V} {its1 its2 : List Value} {acc : Array Value} {c : Nat} {as : List Addr} {S : Addr}
    (I : Inv X pins σ H s) (hS0 : s.heap.objs.size ≤ S) (r1 : Vals xs its1) (r2 : Vals ys its2) (hl : xs.length = ys.length) (hz : xs.length ≤ sizeLine)
    (hk : ∀ b o, s.heap.get? b = some o → g.get? b = some o) (hS : g.get? S = some { cls := .type "list", dict := none, data := .seq acc c, slots := #[] })
    (has : as.length = its1.toArray.size) (G : ZG its1.toArray its2.toArray S g as) (hacc : acc.toList = as.map Value.ref) :
    ∃ H' : Hp, Same H H' ∧ H S = none ∧ H' S = some (.lst (as.map V.ref)) ∧ Paired (PrR H') as (xs.zip ys) ∧ Inv X pins σ H' { s with heap := g, toks := tk } := by
  have l1 : xs.length = its1.length := r1.length
  have l2 : ys.length = its2.length := r2.length
  have has' : as.length = xs.length := by rw [has, l1]; simp
  have lz : as.length = (xs.zip ys).length := by rw [List.length_zip]; omega
  have hSn : S ∉ as := fun z => Nat.lt_irrefl _ (G.above _ z)
  have nd : as.Nodup := List.Pairwise.imp (fun {a b} (h : a < b) => Nat.ne_of_lt h) G.rise
  have new : ∀ a ∈ as, H a = none := fun a ha => I.hok.fresh (Nat.le_trans hS0 (Nat.le_of_lt (G.above a ha)))
  have newS : H S = none := I.hok.fresh hS0
  have atP := putP_at as (xs.zip ys) (upd H S (.lst (as.map V.ref))) lz nd
  have off : ∀ b, b ∉ as → b ≠ S → putP (upd H S (.lst (as.map V.ref))) as (xs.zip ys) b = H b := fun b h1 h2 => by rw [putP_off as _ _ h1, upd_ne h2]
  have low : ∀ b o, s.heap.get? b = some o → b ∉ as ∧ b ≠ S := fun b o e =>
    ⟨fun z => absurd (Heap.lt_size e) (Nat.not_lt.mpr (Nat.le_trans hS0 (Nat.le_of_lt (G.above b z)))), Nat.ne_of_lt (Nat.lt_of_lt_of_le (Heap.lt_size e) hS0)⟩
  have kp : Same H (putP (upd H S (.lst (as.map V.ref))) as (xs.zip ys)) := fun b v e => by
    rw [off b (fun z => by rw [new b z] at e; cases e) (fun z => by rw [z, newS] at e; cases e)]
    exact e
  have eS : putP (upd H S (.lst (as.map V.ref))) as (xs.zip ys) S = some (.lst (as.map V.ref)) := by rw [putP_off as _ _ hSn, upd_same]
  refine ⟨putP (upd H S (.lst (as.map V.ref))) as (xs.zip ys), kp, newS, eS, atP, ?_⟩
  refine I.call' (ch := []) rfl ⟨fun b o q _ _ _ => hk b o q, fun b o q _ _ _ => ⟨o.slots, hk b o q⟩, fun b o q n _ => ?_, fun b o q _ => ⟨o, hk b o q⟩, fun b zs q => kp b _ q, fun b o v q => kp b _ q, fun b ps q => ⟨#[], by rw [kp b _ q]; simp⟩⟩
    (fun b v q => ?_) I.bare fun b z => by simp at z
  · obtain ⟨z1, z2⟩ := low b o q
    rw [off b z1 z2]
    exact n
  · by_cases hb : b ∈ as
    · obtain ⟨m, pk, e1, e2, e3⟩ := LiI.paired_ix atP hb
      have e3' : putP (upd H S (.lst (as.map V.ref))) as (xs.zip ys) b = some (.tup [pk.1, pk.2]) := e3
      rw [e3'] at q
      cases q
      obtain ⟨x, y, f1, f2, f3⟩ := G.pairs m b e1
      rw [List.getElem?_zip_eq_some] at e2
      obtain ⟨u1, g1, ru1⟩ := r1.get e2.1
      obtain ⟨u2, g2, ru2⟩ := r2.get e2.2
      have x1 : u1 = x := by
        have := f1.symm.trans (show its1.toArray[m]? = some u1 by simpa using g1)
        exact (Option.some.inj this).symm
      have y1 : u2 = y := by
        have := f2.symm.trans (show its2.toArray[m]? = some u2 by simpa using g2)
        exact (Option.some.inj this).symm
      subst x1 y1
      exact ⟨by show 2 ≤ sizeLine; decide, [u1, u2], .cons ru1 (.cons ru2 .nil), ⟨_, f3, rfl, _, rfl⟩⟩
    · by_cases hb2 : b = S
      · rw [hb2] at q ⊢
        rw [eS] at q
        cases q
        refine ⟨by rw [List.length_map]; omega, acc.toList, c, by rw [hacc]; exact LiI.vals_refs as, ?_⟩
        rw [Array.toArray_toList]
        exact hS
      · rw [off b hb hb2] at q
        exact (I.hok b v q).stay (fun d w _ y => hk d w y) (fun d y => kp d _ y) fun d zs y => kp d _ y
def tListZip (K : PySem.W.Frag) (ta : TA) : TE := fun σ H Q => ta σ H fun vs H1 => ∃ a b xs ys, vs = [.ref a, .ref b] ∧ SqT K H1 a xs ∧ SqT K H1 b ys ∧ xs.length = ys.length ∧
  ∀ (H' : Hp) (p : Addr) (ts : List Addr), Same H1 H' → H1 p = none → H' p = some (.lst (ts.map V.ref)) → Paired (PrR H') ts (xs.zip ys) → Q (.ref p) H'
theorem pe_listZip {X : Cx} {e e2 : Expr} {ta : TA} {p p2 pos pos2 : Pos} (hc : X.calm = true) (hg : Gl X "list") (hm : X.mg "list" = none) (hg2 : Gl X "zip") (hm2 : X.mg "zip" = none) (ha : PA X [e, e2] ta)
    (hs2 : starEach [e, e2] X.env = (false, eval e X.env) :: starEach [e2] X.env := by rfl) (hpl : (backTo pos2 (starEach [e2] X.env)).any (·.1) = false := by rfl)
    (hs : starEach [.Call (.Name "zip" p2) [e, e2] [] pos2] X.env = (false, eval (.Call (.Name "zip" p2) [e, e2] [] pos2) X.env) :: starEach [] X.env := by rfl) :
    PE X (.Call (.Name "list" p) [.Call (.Name "zip" p2) [e, e2] [] pos2] [] pos) (tListZip X.K ta) := by
  refine ⟨fun pins s σ H Q I h => ?_⟩
  refine Call_ (ld_blt I hg hm boot_list (PyProof.Rows.callWith_type1 ?_ hs rfl))
  rw [hs]
  show wpAny _ _ (spliced ((false, eval (.Call (.Name "zip" p2) [e, e2] [] pos2) X.env) :: backTo pos (starEach [] X.env))) _ _ s
  refine Calls.spliced_cons ?_
  refine Call_ (ld_blt I hg2 hm2 PyProof.Rows.boot_zip (PyProof.Rows.callWith_type1 (thn (ha.run pos2 pins s σ H _ I h) fun us s1 ⟨vs, H1, I1, r1, q1⟩ => ?_) hs2 hpl))
  obtain ⟨a, b, xs, ys, ex, hqx, hqy, hl, q⟩ := q1
  subst ex
  obtain ⟨u1, u2, eu, ra, rb⟩ := vals2 r1
  subst eu
  obtain rfl : u1 = Value.ref a := ra
  obtain rfl : u2 = Value.ref b := rb
  obtain ⟨its, rv, t1, z1⟩ := I1.tuple hqx
  obtain ⟨its2, rv2, t2, z2⟩ := I1.tuple hqy
  have ha1 : a < s1.heap.objs.size := by obtain ⟨o, ho, _⟩ := id t1; exact Heap.lt_size ho
  have hb1 : b < s1.heap.objs.size := by obtain ⟨o, ho, _⟩ := id t2; exact Heap.lt_size ho
  refine RZ.call_zipT (show s1.heap.IsTuple a its.toArray from t1) (show s1.heap.IsTuple b its2.toArray from t2) fun h' hz hti hto hi hj hsz hk => ?_
  refine Calls.spliced_nil ?_
  have lo5 : ∀ m : Nat, m < 5 → s1.heap.objs.size + m < h'.objs.size := fun m hm => by rw [hsz]; exact Nat.add_lt_add_left hm _
  have szl : its.toArray.size = its2.toArray.size := by
    have := rv.length; have := rv2.length
    simp; omega
  refine call_list_zipT (s := { s1 with heap := h' }) (A := X.A) (I1.ok.hd hc) (PySem.W.ktu_apart s1.heap.objs.size a b ha1 hb1) (fun c hc' => ?_) szl (by have := rv.length; simp; omega) hz hti hto hi hj
    (Heap.IsTuple.at (show s1.heap.IsTuple a its.toArray from t1) fun o e => hk _ _ e) (Heap.IsTuple.at (show s1.heap.IsTuple b its2.toArray from t2) fun o e => hk _ _ e) fun g tk acc c as hk' hS hl' hG hacc => ?_
  · have e' : c = s1.heap.objs.size + 4 ∨ c = s1.heap.objs.size + 2 ∨ c = s1.heap.objs.size + 3 ∨ c = s1.heap.objs.size ∨ c = s1.heap.objs.size + 1 ∨ c = a ∨ c = b := by simpa using hc'
    rcases e' with z | z | z | z | z | z | z
    · exact z ▸ lo5 4 (by decide)
    · exact z ▸ lo5 2 (by decide)
    · exact z ▸ lo5 3 (by decide)
    · exact z ▸ lo5 0 (by decide)
    · exact z ▸ lo5 1 (by decide)
    · exact z ▸ Nat.lt_trans ha1 (lo5 0 (by decide))
    · exact z ▸ Nat.lt_trans hb1 (lo5 0 (by decide))
  · have hkk : ∀ b o, s1.heap.get? b = some o → g.get? b = some o := fun d o e =>
      have ld := Heap.lt_size e
      hk' d o (Nat.ne_of_lt (Nat.lt_add_right 4 ld)) (Nat.ne_of_lt (Nat.lt_add_right 3 ld)) (Nat.ne_of_lt ld) (Nat.ne_of_lt (Nat.lt_add_right 1 ld)) (hk d o e)
    obtain ⟨H', k1, k2, k3, k4, J⟩ := pairs_laid (tk := tk) I1 (show s1.heap.objs.size ≤ h'.objs.size by rw [hsz]; exact Nat.le_add_right _ _) rv rv2 hl z1 hkk hS hl' hG hacc
    exact ⟨.ref _, H', J, rfl, q H' _ as k1 k2 k3 k4⟩
end Nf

set_option Elab.async false
set_option linter.all false
set_option maxRecDepth 100000
namespace Sh
open PySem L2 Nf
/-! built-ins -/
def eF (f : List D → Option D) (t : Ad) : Ed := fun ρ => Mb (t ρ) fun ds => Mo (f ds)
def CallD (Γ : Gm) (r : List V → Hp → VK → Prop) (f : List D → Option D) : Prop := ∀ R H vs ds d, f ds = some d → Same R H → FzA Γ.c R vs ds → Gives Γ R H d (r vs)
theorem CallR.or {X : Cx} {f : Value} {r r' : List V → Hp → VK → Prop} (h : CallR X f r) (h' : CallR X f r') : CallR X f (fun xs H Q => r xs H Q ∨ r' xs H Q) := by
  intro pins s σ H vs us Q I rv q
  rcases q with q | q
  · exact h pins s σ H vs us Q I rv q
  · exact h' pins s σ H vs us Q I rv q
section
variable {X : Cx} {Γ : Gm} {x : Str} {p pos : Pos} {e : Expr} {es : List Expr} {t : Ad} {id T : String} {r : List V → Hp → VK → Prop} {f : List D → Option D}
theorem eF_up {σ : L2.St} {H : Hp} {Q : VK} (hf : CallD Γ r f) (h : up Γ (eF f t) σ H Q) : upA Γ t σ H fun vs H1 => r vs H1 Q := by
  obtain ⟨R, ρ, n, rr, n', rp, e, q⟩ := h
  obtain ⟨ds, m, e1, e⟩ := Mb_some e
  obtain ⟨ee, rfl⟩ := Mo_some e
  exact ⟨R, ρ, n, ds, _, rp, e1, fun vs R1 H1 rp1 S1 z1 => hf R1 H1 vs ds rr ee rp1.hp.same z1 σ ρ _ Q rp1 fun w R3 H3 rp3 S3 z3 => q w R3 H3 rp3 (S1.trans S3) z3⟩
theorem d_callB (hc : CallR X (.builtin id) r) (hf : CallD Γ r f) (hg : Gl X x) (hm : X.mg x = none) (hv : bootBuiltins x = some (.builtin id)) (ha : DA X Γ (e :: es) t) (hn : x ≠ "__name__" := by decide) (hdb : (x == ("__debug__" : Str)) = false := by decide)
    (he : starEach (e :: es) X.env = (false, eval e X.env) :: starEach es X.env := by rfl) (hpl : (backTo pos (starEach es X.env)).any (·.1) = false := by rfl) : DE X Γ (.Call (.Name x p) (e :: es) [] pos) (eF f t) :=
  ⟨PE.wk (pe_callB hc hg hm hv ha.p hn hdb he hpl) fun σ H Q h => eF_up hf h⟩
theorem d_callT (hc : CallR X (.type T) r) (hf : CallD Γ r f) (hg : Gl X x) (hm : X.mg x = none) (hv : bootBuiltins x = some (.type T)) (ha : DA X Γ (e :: es) t) (hn : x ≠ "__name__" := by decide) (hdb : (x == ("__debug__" : Str)) = false := by decide)
    (he : starEach (e :: es) X.env = (false, eval e X.env) :: starEach es X.env := by rfl) (hpl : (backTo pos (starEach es X.env)).any (·.1) = false := by rfl) : DE X Γ (.Call (.Name x p) (e :: es) [] pos) (eF f t) :=
  ⟨PE.wk (pe_callTy hc hg hm hv ha.p hn hdb he hpl) fun σ H Q h => eF_up hf h⟩
theorem fzA1 {c : Cn} {R : Hp} {vs : List V} {d : D} (h : FzA c R vs [d]) : ∃ v, vs = [v] ∧ Fz c R v d := by
  cases h with | cons a b => cases b; exact ⟨_, rfl, a⟩
theorem fzA2 {c : Cn} {R : Hp} {vs : List V} {d e : D} (h : FzA c R vs [d, e]) : ∃ v u, vs = [v, u] ∧ Fz c R v d ∧ Fz c R u e := by
  cases h with | cons a b => cases b with | cons a' b' => cases b'; exact ⟨_, _, rfl, a, a'⟩
def f1 (g : D → Option D) : List D → Option D
  | [x] => g x
  | _ => none
def f2 (g : D → D → Option D) : List D → Option D
  | [x, y] => g x y
  | _ => none
theorem call1 {g : D → Option D} (h : ∀ R H v dx d, g dx = some d → Same R H → Fz Γ.c R v dx → Gives Γ R H d (r [v])) : CallD Γ r (f1 g) := fun R H vs ds d e S z => by
  match ds, e with
  | [dx], e => obtain ⟨v, rfl, z1⟩ := fzA1 z; exact h R H v dx d e S z1
theorem call2 {g : D → D → Option D} (h : ∀ R H v u dx dy d, g dx dy = some d → Same R H → Fz Γ.c R v dx → Fz Γ.c R u dy → Gives Γ R H d (r [v, u])) : CallD Γ r (f2 g) := fun R H vs ds d e S z => by
  match ds, e with
  | [dx, dy], e => obtain ⟨v, u, rfl, z1, z2⟩ := fzA2 z; exact h R H v u dx dy d e S z1 z2
def fLen : D → Option D
  | .tup ds => some (.int (ds.length : Nat))
  | .lst ds => some (.int (ds.length : Nat))
  | .str x => some (.int (x.length : Nat))
  | _ => none
theorem c_len (hK : X.K = Γ.c.K) : CallD Γ (fun xs H Q => ∃ x n, xs = [x] ∧ LenV X.K x H n ∧ Q (.int n) H) (f1 fLen) := call1 fun R H v dx d e S z => by
  cases z with
  | tup h l q => cases e; exact gives_c (.int _) fun Q qq => ⟨_, _, rfl, .inr ⟨_, hK ▸ S.le.sqT h, rfl⟩, by rw [q.len]; exact qq⟩
  | lst h l q => cases e; exact gives_c (.int _) fun Q qq => ⟨_, _, rfl, .inl ⟨_, SqL.of (S _ _ h), rfl⟩, by rw [q.len]; exact qq⟩
  | str y hy => cases e; exact gives_c (.int _) fun Q qq => ⟨_, _, rfl, ⟨hy, rfl⟩, qq⟩
  | _ => cases e
def fAbs : D → Option D
  | .int i => some (.int (if i < 0 then -i else i))
  | _ => none
theorem c_abs : CallD Γ (fun xs H Q => ∃ i, xs = [.int i] ∧ Q (.int (if i < 0 then -i else i)) H) (f1 fAbs) := call1 fun R H v dx d e S z => by
  cases z with
  | int i => cases e; exact gives_c (.int _) fun Q qq => ⟨i, rfl, qq⟩
  | _ => cases e
def fInt : D → Option D
  | .int i => some (.int i)
  | .bl k => some (.int (if k then 1 else 0))
  | _ => none
theorem c_int : CallD Γ (fun xs H Q => (∃ i, xs = [.int i] ∧ Q (.int i) H) ∨ ∃ k, xs = [.bl k] ∧ Q (.int (if k then 1 else 0)) H) (f1 fInt) := call1 fun R H v dx d e S z => by
  cases z with
  | int i => cases e; exact gives_c (.int _) fun Q qq => .inl ⟨i, rfl, qq⟩
  | bl k => cases e; exact gives_c (.int _) fun Q qq => .inr ⟨k, rfl, qq⟩
  | _ => cases e
def fStr : D → Option D
  | .int i => if i.natAbs.log2 < 1920 ∧ (toString i : Str).length ≤ sizeLine then some (.str (toString i)) else none
  | _ => none
theorem c_str : CallD Γ (fun xs H Q => ∃ i, xs = [.int i] ∧ i.natAbs.log2 < 1920 ∧ Q (.str (toString i)) H) (f1 fStr) := call1 fun R H v dx d e S z => by
  cases z with
  | int i =>
    obtain ⟨h, e⟩ := ite_some e
    cases e; exact gives_c (.str _ h.2) fun Q qq => ⟨i, rfl, h.1, qq⟩
  | _ => cases e
def fTuple : D → Option D
  | .tup ds => some (.tup ds)
  | .lst ds => some (.tup ds)
  | _ => none
theorem c_tuple (hK : X.K = Γ.c.K) : CallD Γ (fun xs H Q => ∃ p ys, xs = [.ref p] ∧ ((SqL X.K H p ys ∧ ∀ l, H l = none → Q (.ref l) (upd H l (.tup ys))) ∨ (SqT X.K H p ys ∧ Q (.ref p) H))) (f1 fTuple) := call1 fun R H v dx d e S z => by
  cases z with
  | tup h l q => cases e; exact gives_c (.tup h l q) fun Q qq => ⟨_, _, rfl, .inr ⟨hK ▸ S.le.sqT h, qq⟩⟩
  | lst h l q => cases e; exact gives_new (o := .tup _) (fun p R' e' S' => .tup (SqT.of e') l (q.mono S'.le)) fun Q qq => ⟨_, _, rfl, .inl ⟨SqL.of (S _ _ h), qq⟩⟩
  | _ => cases e
def fList : D → Option D
  | .tup ds => some (.lst ds)
  | .lst ds => some (.lst ds)
  | _ => none
theorem c_list (hK : X.K = Γ.c.K) : CallD Γ (fun xs H Q => ∃ p ys, xs = [.ref p] ∧ (SqL X.K H p ys ∨ SqT X.K H p ys) ∧ ∀ l, H l = none → Q (.ref l) (upd H l (.lst ys))) (f1 fList) := call1 fun R H v dx d e S z => by
  cases z with
  | tup h l q => cases e; exact gives_new (o := .lst _) (fun p R' e' S' => .lst e' l (q.mono S'.le)) fun Q qq => ⟨_, _, rfl, .inr (hK ▸ S.le.sqT h), qq⟩
  | lst h l q => cases e; exact gives_new (o := .lst _) (fun p R' e' S' => .lst e' l (q.mono S'.le)) fun Q qq => ⟨_, _, rfl, .inl (SqL.of (S _ _ h)), qq⟩
  | _ => cases e
/-- items that are truths, numbers -/
def bls : List D → Option (List Bool)
  | [] => some []
  | .bl b :: r => (bls r).map (b :: ·)
  | _ => none
def inz : List D → Option (List Int)
  | [] => some []
  | .int b :: r => (inz r).map (b :: ·)
  | _ => none
theorem bls_of {c : Cn} {R : Hp} : ∀ {vs : List V} {ds : List D} {bs : List Bool}, FzA c R vs ds → bls ds = some bs → vs = bs.map V.bl
  | _, _, _, .nil, e => by cases e; rfl
  | _, _, _, .cons h q, e => by
    cases h with
    | bl b =>
      obtain ⟨bs, e1, rfl⟩ := Option.map_eq_some_iff.mp (show (bls _).map (b :: ·) = _ from e)
      rw [bls_of q e1]; rfl
    | _ => cases e
theorem inz_of {c : Cn} {R : Hp} : ∀ {vs : List V} {ds : List D} {bs : List Int}, FzA c R vs ds → inz ds = some bs → vs = bs.map V.int
  | _, _, _, .nil, e => by cases e; rfl
  | _, _, _, .cons h q, e => by
    cases h with
    | int b =>
      obtain ⟨bs, e1, rfl⟩ := Option.map_eq_some_iff.mp (show (inz _).map (b :: ·) = _ from e)
      rw [inz_of q e1]; rfl
    | _ => cases e
def fAll : D → Option D
  | .lst ds => (bls ds).map fun bs => .bl (bs.all _root_.id)
  | _ => none
def fAny : D → Option D
  | .lst ds => (bls ds).map fun bs => .bl (bs.any _root_.id)
  | _ => none
def fSum : D → Option D
  | .lst ds => (inz ds).map fun bs => .int bs.sum
  | _ => none
theorem c_all : CallD Γ (rAll X.K) (f1 fAll) := call1 fun R H v dx d e S z => by
  cases z with
  | lst h l q =>
    obtain ⟨bs, e1, rfl⟩ := Option.map_eq_some_iff.mp e
    have hx := bls_of q e1
    subst hx
    exact gives_c (.bl _) fun Q qq => ⟨_, bs, rfl, SqL.of (S _ _ h), qq⟩
  | _ => cases e
theorem c_any : CallD Γ (rAny X.K) (f1 fAny) := call1 fun R H v dx d e S z => by
  cases z with
  | lst h l q =>
    obtain ⟨bs, e1, rfl⟩ := Option.map_eq_some_iff.mp e
    have hx := bls_of q e1
    subst hx
    exact gives_c (.bl _) fun Q qq => ⟨_, bs, rfl, SqL.of (S _ _ h), qq⟩
  | _ => cases e
theorem c_sum : CallD Γ (rSum X.K) (f1 fSum) := call1 fun R H v dx d e S z => by
  cases z with
  | lst h l q =>
    obtain ⟨bs, e1, rfl⟩ := Option.map_eq_some_iff.mp e
    have hx := inz_of q e1
    subst hx
    exact gives_c (.int _) fun Q qq => ⟨_, bs, rfl, SqL.of (S _ _ h), qq⟩
  | _ => cases e
def fMax2 : D → D → Option D
  | .int i, .int j => some (.int (if j > i then j else i))
  | _, _ => none
def fMin2 : D → D → Option D
  | .int i, .int j => some (.int (if j < i then j else i))
  | _, _ => none
theorem c_max2 : CallD Γ (fun xs H Q => ∃ i j, xs = [.int i, .int j] ∧ Q (.int (if j > i then j else i)) H) (f2 fMax2) := call2 fun R H v u dx dy d e S z1 z2 => by
  cases z1 with
  | int i => cases z2 with
    | int j => cases e; exact gives_c (.int _) fun Q qq => ⟨i, j, rfl, qq⟩
    | _ => cases e
  | _ => cases e
theorem c_min2 : CallD Γ (fun xs H Q => ∃ i j, xs = [.int i, .int j] ∧ Q (.int (if j < i then j else i)) H) (f2 fMin2) := call2 fun R H v u dx dy d e S z1 z2 => by
  cases z1 with
  | int i => cases z2 with
    | int j => cases e; exact gives_c (.int _) fun Q qq => ⟨i, j, rfl, qq⟩
    | _ => cases e
  | _ => cases e
end
/-! isinstance -/
def D.tyn : D → Option String
  | .non => some "NoneType"
  | .bl _ => some "bool"
  | .int _ => some "int"
  | .str _ => some "str"
  | .tup _ => some "tuple"
  | .lst _ => some "list"
  | .dk _ _ => some "dict"
  | _ => none
theorem Fz.tyx {c : Cn} {R H : Hp} {v : V} {d : D} {t : String} (h : Fz c R v d) (S : Same R H) (e : d.tyn = some t) : TyX c.K H v (.type t) := by
  cases h with
  | non => cases e; exact .base .non
  | bl b => cases e; exact .base (.bl b)
  | int i => cases e; exact .base (.int i)
  | str x _ => cases e; exact .base (.str x)
  | tup h _ _ =>
    cases e
    rcases S.le.sqT h with (h | ⟨o, h⟩) | ⟨o, its, n, h, hc, _⟩
    · exact .base (.tup h)
    · exact .fTuple h
    · exact .kTuple h hc
  | lst h _ _ => cases e; exact .base (.lst (S _ _ h))
  | dk h _ _ =>
    cases e
    rcases S.le.1 _ _ h with h | ⟨o, h⟩
    · exact .base (.dK h)
    · exact .fDict h
  | ins _ _ => cases e
  | deck => cases e
def fIsi (T : String) (d : D) : Option D := d.tyn.bind fun t => (kitB t T).map .bl
section
variable {X : Cx} {Γ : Gm} {p pos : Pos} {e e2 : Expr} {ta : Ed} {T : String}
theorem d_isi (ha : DE X Γ e ta) (hty : PE X e2 (tC (.ty T))) (hg : Gl X "isinstance") (hm : X.mg "isinstance" = none) (hK : X.K = Γ.c.K := by rfl)
    (he : starEach [e, e2] X.env = (false, eval e X.env) :: starEach [e2] X.env := by rfl) (he2 : starEach [e2] X.env = (false, eval e2 X.env) :: starEach [] X.env := by rfl) (hpl : (backTo pos (starEach [e2] X.env)).any (·.1) = false := by rfl) :
    DE X Γ (.Call (.Name "isinstance" p) [e, e2] [] pos) (e1 (fIsi T) ta) :=
  ⟨PE.wk (pe_callB call_isi hg hm (by decide +kernel) (pa_cons ha.p (pa_cons hty pa_nil he2) he) (by decide) (by decide) he hpl) fun σ H Q ⟨R, ρ, n, r, n', rp, e, q⟩ => by
    obtain ⟨x, m, e1, e⟩ := Mb_some e
    obtain ⟨ee, rfl⟩ := Mo_some e
    obtain ⟨t, et, ek⟩ := Option.bind_eq_some_iff.mp ee
    obtain ⟨b, eb, rfl⟩ := Option.map_eq_some_iff.mp ek
    refine ⟨R, ρ, n, x, _, rp, e1, fun v R1 H1 rp1 S1 z1 => ?_⟩
    exact ⟨_, _, _, _, b, rfl, .ty T, hK ▸ z1.tyx rp1.hp.same et, kit_ty eb, q _ R1 H1 rp1 S1 (.bl b)⟩⟩
/-! xs.index(x) -/
def ixOf (x : D) : List D → Option Nat
  | [] => none
  | y :: r => if eqF y x = true then some 0 else (ixOf x r).map (· + 1)
def fIndex : D → D → Option D
  | .lst ds, x => if x.flt = true ∧ ds.all D.flt = true then (ixOf x ds).map fun j => .int (j : Nat) else none
  | _, _ => none
theorem ixOf_some {x : D} : ∀ {ds : List D} {j : Nat}, ixOf x ds = some j → (∃ z, ds[j]? = some z ∧ eqF z x = true) ∧ ∀ m z, m < j → ds[m]? = some z → eqF z x = false
  | [], j, e => by cases e
  | y :: r, j, e => by
    unfold ixOf at e
    by_cases h : eqF y x = true
    · rw [if_pos h] at e; cases e
      exact ⟨⟨y, rfl, h⟩, fun m z hm => absurd hm (Nat.not_lt_zero _)⟩
    · rw [if_neg h] at e
      obtain ⟨k, ek, rfl⟩ := Option.map_eq_some_iff.mp e
      obtain ⟨⟨z, h1, h2⟩, h3⟩ := ixOf_some ek
      refine ⟨⟨z, by simpa using h1, h2⟩, fun m z' hm hz => ?_⟩
      cases m with
      | zero => simp at hz; subst hz; simpa using h
      | succ m => exact h3 m z' (by omega) (by simpa using hz)
theorem d_index {o a : Expr} {to ta : Ed} {apos cpos : Pos} (ho : DE X Γ o to) (ha : DE X Γ a ta) (hbase : attributeBase o "index" X.env (eval o X.env) = eval o X.env := by rfl) (hline : (apos.endLine == cpos.line) = true := by rfl) (hs : starEach [a] X.env = (false, eval a X.env) :: starEach [] X.env := by rfl)
    (hfew : ((backTo cpos (starEach [a] X.env)).all (fun x => !x.1) && (backToKw cpos (keywordEach [] X.env)).all (fun x => x.1.isSome) && decide ([a].length + ([] : List Keyword).length + (if ([] : List Keyword).isEmpty then 0 else 1) < 30)) = true := by rfl) (hpl : (backTo cpos (starEach [] X.env)).any (·.1) = false := by rfl) :
    DE X Γ (.Call (.Attribute o "index" apos) [a] [] cpos) (Sh.e2 fIndex to ta) :=
  ⟨PE.wk (pe_bm PySem.F.plainAttrs_list PySem.F.slot_list_index PySem.F.type_list_index mt_index ho.p (pa_cons ha.p pa_nil hs) hbase hfew hline hs hpl) fun σ H Q ⟨R, ρ, n, r, n', rp, e, q⟩ => by
    obtain ⟨x, m, e1, e⟩ := Mb_some e
    obtain ⟨y, m2, e2, e⟩ := Mb_some e
    obtain ⟨ee, rfl⟩ := Mo_some e
    refine ⟨R, ρ, n, x, m, rp, e1, fun v R1 H1 rp1 S1 z1 => ?_⟩
    cases z1 with
    | @lst aa xs ds h l f =>
      obtain ⟨hf, ej⟩ := ite_some ee
      obtain ⟨j, ej2, rfl⟩ := Option.map_eq_some_iff.mp ej
      refine ⟨.inl ⟨rfl, _, SqL.of (rp1.hp.same _ _ h)⟩, R1, ρ, m, y, _, rp1, e2, fun u R2 H2 rp2 S2 z2 => ?_⟩
      have f2 := f.mono S2.le
      obtain ⟨⟨z, hz, hzx⟩, hno⟩ := ixOf_some ej2
      obtain ⟨zv, hzv, hzf⟩ := f2.get hz
      refine ⟨_, _, _, j, zv, rfl, rfl, SqL.of (rp2.hp.same _ _ (S2.same _ _ h)), by rw [z2.flt]; exact hf.1, by rw [f2.flt]; exact hf.2, hzv, by rw [hzf.eqF z2]; exact hzx, fun k z' hk hz' => ?_, q _ R2 H2 rp2 (S1.trans S2) (.int _)⟩
      obtain ⟨d', hd', hf'⟩ := f2.getV hz'
      rw [hf'.eqF z2]
      exact hno k d' hk hd'
    | _ => cases ee⟩
end
end Sh

set_option Elab.async false
set_option linter.all false
set_option maxRecDepth 100000
namespace Sh
open PySem L2 Nf
section
variable {Γ : Gm} {R R' H H' : Hp} {σ σ' : L2.St} {ρ : Sd} {n n' : Nat}
theorem Rp.along (h : Rp Γ R H σ ρ n) (g : Go Γ R H R' H') (k : HpOk Γ R' H' n') : Rp Γ R' H' σ ρ n' := by
  refine ⟨h.len, fun i d hi e => ?_, fun i d hi e => ?_, h.dist, k⟩
  · obtain ⟨v, h1, h2⟩ := h.fz i d hi e
    exact ⟨v, h1, h2.mono g.le⟩
  · obtain ⟨a, u, h1, h2, h3, h4, h5⟩ := h.own i d hi e
    have hd : a ∉ Γ.W.dom := fun m => h.hp.d0 a m h4
    refine ⟨a, u, h1, g.keep a u h2 hd, ?_, h4, h5.mono g.le⟩
    cases q : R' a with
    | none => rfl
    | some z =>
      rcases g.new a (by rw [q]; exact fun z => nomatch z) with z | z
      · exact absurd h3 z
      · rw [z] at h2; cases h2
/-- p is no owned object's address -/
def NoO (Γ : Gm) (σ : L2.St) (ρ : Sd) (p : Addr) : Prop := ∀ i d, i ∈ Γ.ow → ρ[i]? = some (some d) → σ[i]? ≠ some (some (.ref p))
theorem Rp.noO {p : Addr} (h : Rp Γ R H σ ρ n) (hp : H p = none) : NoO Γ σ ρ p := fun i d hi e z => by
  obtain ⟨a, u, h1, h2, _⟩ := h.own i d hi e
  rw [z] at h1; cases h1
  rw [hp] at h2; cases h2
theorem Rp.mutO {p : Addr} {o : HO} (h : Rp Γ R H σ ρ n) (hR : R p = none) (h0 : Γ.H0 p = none) (hn : NoO Γ σ ρ p) : Rp Γ R (upd H p o) σ ρ n := by
  refine ⟨h.len, h.fz, fun i d hi e => ?_, h.dist, h.hp.mut hR h0⟩
  obtain ⟨a, u, h1, h2, h3, h4, h5⟩ := h.own i d hi e
  have : a ≠ p := fun z => hn i d hi e (z ▸ h1)
  exact ⟨a, u, h1, by rw [upd_ne this]; exact h2, h3, h4, h5⟩
theorem HpOk.freeze {p : Addr} {o : HO} (h : HpOk Γ R H n) (hp : H p = some o) (hR : R p = none) (h0 : Γ.H0 p = none) : HpOk Γ (upd R p o) H n := by
  have hpd : p ∉ Γ.W.dom := fun m => h.d0 p m h0
  refine ⟨fun a u e => ?_, fun a m => ?_, h.d0, h.wd, h.keep, h.r0.trans (same_new hR _), fun a e => ?_⟩
  · by_cases q : a = p
    · subst q; rw [upd_same] at e; cases e; exact hp
    · rw [upd_ne q] at e; exact h.same _ _ e
  · have : a ≠ p := fun q => hpd (q ▸ m)
    rw [upd_ne this]; exact h.dj a m
  · by_cases q : a = p
    · subst q; exact .inr h0
    · rw [upd_ne q] at e; exact h.new a e
theorem Rp.freeze {p : Addr} {o : HO} (h : Rp Γ R H σ ρ n) (hp : H p = some o) (hR : R p = none) (h0 : Γ.H0 p = none) (hn : NoO Γ σ ρ p) : Rp Γ (upd R p o) H σ ρ n := by
  refine ⟨h.len, fun i d hi e => ?_, fun i d hi e => ?_, h.dist, h.hp.freeze hp hR h0⟩
  · obtain ⟨v, h1, h2⟩ := h.fz i d hi e
    exact ⟨v, h1, h2.mono (same_new hR o).le⟩
  · obtain ⟨a, u, h1, h2, h3, h4, h5⟩ := h.own i d hi e
    have : a ≠ p := fun z => hn i d hi e (z ▸ h1)
    exact ⟨a, u, h1, h2, by rw [upd_ne this]; exact h3, h4, h5.mono (same_new hR o).le⟩
theorem Go.lay0 {p : Addr} {o : HO} (g : Go Γ R H R' H') (hp : H' p = none) : Go Γ R H R' (upd H' p o) :=
  ⟨g.same, g.keep.new hp, g.new, fun a e => g.nn a (by
    by_cases q : a = p
    · subst q; exact hp
    · rw [upd_ne q] at e; exact e)⟩
theorem Go.mutN {p : Addr} {o : HO} (g : Go Γ R H R' H') (hp : H p = none) : Go Γ R H R' (upd H' p o) :=
  ⟨g.same, g.keep.mutN hp, g.new, fun a e => by
    by_cases q : a = p
    · subst q; exact hp
    · rw [upd_ne q] at e; exact g.nn a e⟩
theorem Go.freeze {p : Addr} {o : HO} (g : Go Γ R H R' H') (hp : H p = none) (hR : R' p = none) : Go Γ R H (upd R' p o) H' :=
  ⟨g.same.trans (same_new hR _), g.keep, fun a e => by
    by_cases q : a = p
    · subst q; exact .inr hp
    · rw [upd_ne q] at e; exact g.new a e, g.nn⟩
/-- slots forgotten -/
def wipeD (ρ : Sd) : List Nat → Sd
  | [] => ρ
  | v :: vs => (wipeD ρ vs).set v none
theorem wipeD_len (ρ : Sd) : ∀ vs : List Nat, (wipeD ρ vs).length = ρ.length
  | [] => rfl
  | v :: vs => by unfold wipeD; rw [List.length_set, wipeD_len ρ vs]
theorem wipeD_some {ρ : Sd} {i : Nat} {x : D} : ∀ {vs : List Nat}, (wipeD ρ vs)[i]? = some (some x) → ρ[i]? = some (some x) ∧ i ∉ vs
  | [], h => ⟨h, by simp⟩
  | v :: vs, h => by
    unfold wipeD at h
    by_cases hi : v = i
    · subst hi
      by_cases hv : v < (wipeD ρ vs).length
      · rw [List.getElem?_set_self hv] at h; cases h
      · rw [List.getElem?_eq_none (by rw [List.length_set]; omega)] at h; cases h
    · rw [List.getElem?_set_ne hi] at h
      obtain ⟨h1, h2⟩ := wipeD_some (vs := vs) h
      exact ⟨h1, fun z => (List.mem_cons.mp z).elim (fun e => hi e.symm) h2⟩
theorem wipe_out {σ : L2.St} {i : Nat} : ∀ {vs : List Nat}, i ∉ vs → (wipe σ vs)[i]? = σ[i]?
  | [], _ => rfl
  | v :: vs, h => by
    rw [List.mem_cons, not_or] at h
    unfold wipe
    rw [List.getElem?_set_ne (fun e => h.1 e.symm)]
    exact wipe_out h.2
theorem wipe_in {σ : L2.St} {i : Nat} : ∀ {vs : List Nat}, i ∈ vs → i < σ.length → (wipe σ vs)[i]? = some none
  | v :: vs, h, hl => by
    unfold wipe
    by_cases e : v = i
    · subst e; rw [List.getElem?_set_self (by rw [wipe_length]; exact hl)]
    · rw [List.getElem?_set_ne e]
      exact wipe_in ((List.mem_cons.mp h).resolve_left fun z => e z.symm) hl
theorem wipe_eq {vs : List Nat} (hl : σ'.length = σ.length) (h : ∀ i, i ∉ vs → σ'[i]? = σ[i]?) : wipe σ' vs = wipe σ vs := by
  apply List.ext_getElem?
  intro i
  by_cases m : i ∈ vs
  · by_cases hi : i < σ.length
    · rw [wipe_in m hi, wipe_in m (by omega)]
    · rw [List.getElem?_eq_none (by rw [wipe_length]; omega), List.getElem?_eq_none (by rw [wipe_length]; omega)]
  · rw [wipe_out m, wipe_out m, h i m]
theorem Rp.wipe (h : Rp Γ R H σ ρ n) (vs : List Nat) : Rp Γ R H (L2.wipe σ vs) (wipeD ρ vs) n := by
  refine ⟨by rw [wipe_length, wipeD_len]; exact h.len, fun i d hi e => ?_, fun i d hi e => ?_, fun i j a d1 d2 hi hj e1 e2 s1 s2 => ?_, h.hp⟩
  · obtain ⟨e1, e2⟩ := wipeD_some e
    rw [wipe_out e2]; exact h.fz i d hi e1
  · obtain ⟨e1, e2⟩ := wipeD_some e
    rw [wipe_out e2]; exact h.own i d hi e1
  · obtain ⟨f1, f2⟩ := wipeD_some e1
    obtain ⟨g1, g2⟩ := wipeD_some e2
    rw [wipe_out f2] at s1
    rw [wipe_out g2] at s2
    exact h.dist i j a d1 d2 hi hj f1 g1 s1 s2
end
/-! targets -/
abbrev Gd := D → Sd → Option Sd
def upG (Γ : Gm) (vs : List Nat) (g : Gd) : TG := fun v σ H Q => ∃ R ρ n d ρ', Rp Γ R H σ ρ n ∧ Fz Γ.c R v d ∧ g d ρ = some ρ' ∧ ∀ σ', σ'.length = σ.length → (∀ i, i ∉ vs → σ'[i]? = σ[i]?) → Rp Γ R H σ' ρ' n → Q σ' H
structure DG (X : Cx) (Γ : Gm) (e : Expr) (vs : List Nat) (g : Gd) : Prop where
  p : PG X e (upG Γ vs g)
def upGs (Γ : Gm) (vs : List Nat) (g : List D → Sd → Option Sd) : TGs := fun v σ H Q => ∃ R ρ n d ρ', Rp Γ R H σ ρ n ∧ FzA Γ.c R v d ∧ g d ρ = some ρ' ∧ ∀ σ', σ'.length = σ.length → (∀ i, i ∉ vs → σ'[i]? = σ[i]?) → Rp Γ R H σ' ρ' n → Q σ' H
structure DGs (X : Cx) (Γ : Gm) (es : List Expr) (k : Nat) (vs : List Nat) (g : List D → Sd → Option Sd) : Prop where
  p : PGs X es (upGs Γ vs g)
  len : ∀ ds ρ ρ', g ds ρ = some ρ' → ds.length = k
theorem PG.wk {X : Cx} {e : Expr} {t t' : TG} (h : PG X e t) (k : ∀ v σ H Q, t' v σ H Q → t v σ H Q) : PG X e t' := ⟨fun pins s σ H v u Q I r q => h.run pins s σ H v u Q I r (k v σ H Q q)⟩
theorem PGs.wk {X : Cx} {e : List Expr} {t t' : TGs} (h : PGs X e t) (k : ∀ v σ H Q, t' v σ H Q → t v σ H Q) : PGs X e t' := ⟨fun pins s σ H v u Q I r q => h.run pins s σ H v u Q I r (k v σ H Q q)⟩
section
variable {X : Cx} {Γ : Gm}
def gN (i : Nat) : Gd := fun d ρ => some (ρ.set i (some d))
theorem dg_name {i : Nat} {e : Expr} (h : PG X e (gName i)) (hi' : Γ.ow.contains i = false := by rfl) : DG X Γ e [i] (gN i) := have hi := nmem_of hi'; ⟨PG.wk h fun v σ H Q ⟨R, ρ, n, d, ρ', rp, z, e, q⟩ => by
  cases e
  exact q _ (List.length_set ..) (fun j hj => List.getElem?_set_ne (fun z => hj (by simp [z]))) (rp.set hi z)⟩
def gsN : List D → Sd → Option Sd
  | [], ρ => some ρ
  | _, _ => none
def gsC (g : Gd) (gs : List D → Sd → Option Sd) : List D → Sd → Option Sd
  | d :: ds, ρ => (g d ρ).bind (gs ds)
  | _, _ => none
theorem dgs_nil : DGs X Γ [] 0 [] gsN := ⟨PGs.wk pgs_nil (fun v σ H Q ⟨R, ρ, n, d, ρ', rp, z, e, q⟩ => by
  cases z with
  | nil => cases e; exact ⟨rfl, q σ rfl (fun _ _ => rfl) rp⟩
  | cons _ _ => cases e), fun ds ρ ρ' e => by cases ds with | nil => rfl | cons _ _ => cases e⟩
theorem dgs_cons {e : Expr} {es : List Expr} {k : Nat} {v1 v2 : List Nat} {g : Gd} {gs : List D → Sd → Option Sd} (h1 : DG X Γ e v1 g) (h2 : DGs X Γ es k v2 gs)
    (hs : (assignEach (e :: es) X.env).map (·.2) = assign e X.env :: (assignEach es X.env).map (·.2) := by rfl) : DGs X Γ (e :: es) (k + 1) (v1 ++ v2) (gsC g gs) := ⟨PGs.wk (pgs_cons h1.p h2.p hs) (fun v σ H Q ⟨R, ρ, n, d, ρ', rp, z, e, q⟩ => by
  cases z with
  | nil => cases e
  | cons za zb =>
    obtain ⟨ρ1, e1, e2⟩ := Option.bind_eq_some_iff.mp (show (g _ ρ).bind (gs _) = _ from e)
    refine ⟨_, _, rfl, R, ρ, n, _, ρ1, rp, za, e1, fun σ1 hl1 ha1 rp1 => ⟨R, ρ1, n, _, ρ', rp1, zb, e2, fun σ2 hl2 ha2 rp2 => q σ2 (hl2.trans hl1) (fun i hi => ?_) rp2⟩⟩
    rw [List.mem_append, not_or] at hi
    rw [ha2 i hi.2, ha1 i hi.1]), fun ds ρ ρ' e => by
  cases ds with
  | nil => cases e
  | cons d r =>
    obtain ⟨ρ1, e1, e2⟩ := Option.bind_eq_some_iff.mp (show (g d ρ).bind (gs r) = _ from e)
    rw [List.length_cons, h2.len _ _ _ e2]⟩
def gT (gs : List D → Sd → Option Sd) : Gd
  | .tup ds, ρ => gs ds ρ
  | _, _ => none
theorem dg_tup {es : List Expr} {kk k : Nat} {vs : List Nat} {gs : List D → Sd → Option Sd} {pos : Pos} (h : DGs X Γ es k vs gs) (hc : X.calm = true := by rfl) (hn : (assignEach es X.env).length = k := by rfl) (hst : (assignEach es X.env).findIdx? (·.1) = none := by rfl) (hK : X.K = Γ.c.K := by rfl) :
    DG X Γ (.Tuple es kk pos) vs (gT gs) := ⟨PG.wk (pg_tup hc h.p hn hst) fun v σ H Q ⟨R, ρ, n, d, ρ', rp, z, e, q⟩ => by
  cases z with
  | tup hh l f => exact ⟨_, _, rfl, hK ▸ rp.hp.same.le.sqT hh, by rw [f.len]; exact h.len _ _ _ e, R, ρ, n, _, ρ', rp, f, e, q⟩
  | _ => cases e⟩
end
/-! what is walked -/
def YOk (c : Cn) (R : Hp) (ds : List D) (Y : Nat → Hp → V → Hp → Prop) : Prop := ∀ i H x H' d, ds[i]? = some d → Y i H x H' →
  (H' = H ∧ Fz c R x d) ∨ ∃ T vs es, x = .ref T ∧ H T = none ∧ H' = upd H T (.tup vs) ∧ d = .tup es ∧ vs.length ≤ sizeLine ∧ FzA c R vs es
abbrev Id' := Sd → M (List D)
def upI (Γ : Gm) (ti : Id') : TI := fun σ H K => ∃ R ρ n ds n', Rp Γ R H σ ρ n ∧ ti ρ n = some (ds, n') ∧ ∀ J G Y R' H', Rp Γ R' H' σ ρ n' → Go Γ R H R' H' → Walk J ds.length G Y → (∀ H2, Same R' H2 → G H2) → YOk Γ.c R' ds Y → ds.length ≤ sizeLine → K J H'
structure DI (X : Cx) (Γ : Gm) (tg iter : Expr) (ti : Id') : Prop where
  p : PI X tg iter (upI Γ ti)
theorem PI.wk {X : Cx} {tg e : Expr} {t t' : TI} (h : PI X tg e t) (k : ∀ σ H Q, t' σ H Q → t σ H Q) : PI X tg e t' := ⟨fun pins s σ H Q I q => h.run pins s σ H Q I (k σ H Q q)⟩
theorem PI.or {X : Cx} {tg e : Expr} {t t' : TI} (h : PI X tg e t) (h' : PI X tg e t') : PI X tg e fun σ H Q => t σ H Q ∨ t' σ H Q := ⟨fun pins s σ H Q I q => by
  rcases q with q | q
  · exact h.run pins s σ H Q I q
  · exact h'.run pins s σ H Q I q⟩
section
variable {X : Cx} {Γ : Gm} {tg e : Expr} {t : Ed}
def fItems : D → Option (List D)
  | .tup ds => szl ds.length ds
  | .lst ds => szl ds.length ds
  | .str z => szl z.length (z.cps.toList.map fun c => .str ⟨#[c]⟩)
  | _ => none
def iSeq (t : Ed) : Id' := fun ρ => Mb (t ρ) fun d => Mo (fItems d)
theorem di_seq (h : DE X Γ e t) (hK : X.K = Γ.c.K := by rfl) : DI X Γ tg e (iSeq t) := ⟨PI.wk (PI.or (pi_list h.p) (PI.or (pi_tup h.p) (pi_str h.p))) fun σ H Q ⟨R, ρ, n, ds, n', rp, e, q⟩ => by
  obtain ⟨d, m, e1, e⟩ := Mb_some e
  obtain ⟨ee, rfl⟩ := Mo_some e
  cases d with
  | lst ds0 =>
    obtain ⟨h1, rfl⟩ := szl_some ee
    refine .inl ⟨R, ρ, n, _, _, rp, e1, fun v R1 H1 rp1 S1 z1 => ?_⟩
    obtain ⟨a, xs, rfl, ha, l, f⟩ := z1.lst_inv
    refine ⟨a, rfl, ⟨_, SqL.of (rp1.hp.same _ _ ha)⟩, q _ _ _ R1 H1 rp1 S1 (f.len ▸ walk_list (xs := xs)) (fun H2 S => SqL.of (S _ _ ha)) (fun i H2 x H3 d hd hy => .inl ⟨hy.1, ?_⟩) h1⟩
    obtain ⟨d', h1, h2⟩ := f.getV hy.2
    rw [hd] at h1; cases h1; exact h2
  | tup ds0 =>
    obtain ⟨h1, rfl⟩ := szl_some ee
    refine .inr (.inl ⟨R, ρ, n, _, _, rp, e1, fun v R1 H1 rp1 S1 z1 => ?_⟩)
    obtain ⟨a, xs, rfl, ha, l, f⟩ := z1.tup_inv
    refine ⟨a, rfl, ⟨xs, hK ▸ rp1.hp.same.le.sqT ha⟩, q _ _ _ R1 H1 rp1 S1 (f.len ▸ walk_tup (xs := xs)) (fun H2 S => hK ▸ S.le.sqT ha) (fun i H2 x H3 d hd hy => .inl ⟨hy.1, ?_⟩) h1⟩
    obtain ⟨d', h1, h2⟩ := f.getV hy.2
    rw [hd] at h1; cases h1; exact h2
  | str z =>
    obtain ⟨h1, rfl⟩ := szl_some ee
    refine .inr (.inr ⟨R, ρ, n, _, _, rp, e1, fun v R1 H1 rp1 S1 z1 => ?_⟩)
    obtain ⟨rfl, _⟩ := z1.str_inv
    have el : (z.cps.toList.map fun c => D.str ⟨#[c]⟩).length = z.cps.size := by rw [List.length_map, Array.length_toList]
    refine ⟨z, rfl, q _ _ _ R1 H1 rp1 S1 (el ▸ walk_str (z := z)) (fun H2 S => True.intro) (fun i H2 x H3 d hd hy => .inl ⟨hy.1, ?_⟩) (by rw [el]; exact h1)⟩
    obtain ⟨c, h2, rfl⟩ := hy.2
    rw [List.getElem?_map, Array.getElem?_toList, h2] at hd
    cases hd
    exact .str _ (one_len c)
  | _ => cases ee⟩
/-! range -/
def rngD (lo : Int) (k : Nat) : List D := (List.range k).map fun (i : Nat) => .int (lo + i)
theorem rngD_len (lo : Int) (k : Nat) : (rngD lo k).length = k := by unfold rngD; rw [List.length_map, List.length_range]
theorem rngD_yok {c : Cn} {R : Hp} (lo : Int) (k : Nat) : YOk c R (rngD lo k) (YFn fun (i : Nat) => .int (lo + i)) := fun i H x H' d hd hy => .inl ⟨hy.1, by
  have hi : i < k := by
    have := (List.getElem?_eq_some_iff.mp hd).1
    rwa [rngD_len] at this
  unfold rngD at hd
  rw [List.getElem?_map, List.getElem?_range hi] at hd
  cases hd
  rw [hy.2]
  exact .int _⟩
end
end Sh

set_option Elab.async false
set_option linter.all false
set_option maxRecDepth 100000
namespace Nf
open PySem PySem.Spec PyProof.Rows L2
section
variable {prog : Program} {w : World} {A : Around} {E : Value → Shared → Prop} {s : Shared}
theorem zt_end2 {z TI TO T i j t u : Addr} {f : Bool} {oT : Obj} {k : Nat} {xs ys : Array Value} {x : Value} {Q : Option Value → Shared → Prop} (hh : A.handled = none) (D : ZipApart z TI TO i j t u)
    (hz : IsZipHeld s.heap z TI TO T f) (hT : s.heap.get? T = some oT) (hTI : IsPair s.heap TI (.ref i) (.ref j))
    (hi : s.heap.IsTupleIter i t k) (hj : s.heap.IsTupleIter j u k) (ht : s.heap.IsTuple t xs) (hu : s.heap.IsTuple u ys) (hx : xs[k]? = some x) (hy : ys[k]? = none)
    (hQ : ∀ g, (∀ c o, c ≠ z → c ≠ i → c ≠ j → s.heap.get? c = some o → g.get? c = some o) → Q none { s with heap := g }) :
    wpAny (model prog w) A (pyNext (.ref z)) Q E s := by
  have ty : s.TypeIs (.ref z) "zip" := ⟨_, hz, rfl⟩
  unfold pyNext
  refine wpAny_bind (wpAny_attempt ?_)
  refine wpAny_callSpecial?_slot (name := Str.ofString "__next__") ty F.slot_zip_next ?_
  refine wpAny_call_entry F.slot_zip_next ty F.entry_zip_next ?_ (F.args_zip_next_1 _)
  show wpAny _ _ (field (.ref z) 2 >>= _) _ _ s
  refine wpAny_bind (wpAny_field hz rfl (x := .bool false) rfl ?_)
  show wpAny _ _ (field (.ref z) 3 >>= _) _ _ s
  refine wpAny_bind (wpAny_field hz rfl (x := .ref TI) rfl (wpAny_bind (wpAny_seqItems hTI rfl ?_)))
  show wpAny _ _ (Builtin.SmallTypes.ownedTupleIsFree (.ref z) >>= _) _ _ s
  refine wpAny_bind (wpAny_tupleHeld_zip hz hT fun g1 z1 s1 => ?_)
  simp only [Bool.false_eq_true, if_false]
  refine wpAny_bind ?_
  rw [← Array.forIn_toList]
  simp only [List.forIn_cons, List.forIn_nil]
  refine wpAny_bind (wpAny_bind (wpAny_holding ?_))
  show wpAny _ _ (Builtin.SmallTypes.nextOf (.ref i) >>= _) _ _ _
  refine wpAny_bind (wpAny_nextOf_tuple_item (s := { s with heap := g1 }) (hi.extBut s1.extBut D.i1z) (ht.extBut s1.extBut D.l1z) hx fun g2 i2 s2 => wpAny_pure (wpAny_pure ?_))
  refine wpAny_bind (wpAny_bind (wpAny_holding ?_))
  show wpAny _ _ (Builtin.SmallTypes.nextOf (.ref j) >>= _) _ _ _
  refine wpAny_bind (wpAny_nextOf_tuple_end (s := { s with heap := g2 }) hh ((hj.extBut s1.extBut D.i2z).extBut s2.extBut D.i12.symm) ((hu.extBut s1.extBut D.l2z).extBut s2.extBut D.l2i1) hy fun g3 e s3 he => ?_)
  obtain ⟨oz, hoz, hcz⟩ := he
  exact wpAny_bind (wpAny_isInstance (T := "StopIteration") (b := true) ⟨oz, hoz, hcz⟩ isSubtype_stop (wpAny_pure (hQ _ fun c o n1 n2 n3 q => s3 _ _ n3 (s2.extBut _ _ n2 (s1.extBut _ _ n1 q)))))
theorem zs_end2 {xs ys : Array Value} {z TI TO i j t u S : Addr} {k : Nat} {Q : Option Value → Shared → Prop} (hh : A.handled = none) (D : ZipApart z TI TO i j t u) (Z : ZSt xs ys z TI TO i j t u S k s.heap) (hx : min xs.size ys.size ≤ k)
    (hQ : ∀ g, (∀ c o, c ≠ z → c ≠ TO → c ≠ i → c ≠ j → s.heap.get? c = some o → g.get? c = some o) → Q none { s with heap := g }) : wpAny (model prog w) A (pyNext (.ref z)) Q E s := by
  by_cases h1 : k < xs.size
  · have hy : ys[k]? = none := Array.getElem?_eq_none (by omega)
    have hx1 : xs[k]? = some xs[k] := by simp [h1]
    rcases Z.st with ⟨hz, a, b, hTO⟩ | ⟨T, f, oT, hz, hT, _⟩
    · exact RZ.pyNext_zipT_end hh D hz Z.ti hTO Z.hi Z.hj Z.ht Z.hu (.inr hy) hQ
    · exact zt_end2 hh D hz hT Z.ti Z.hi Z.hj Z.ht Z.hu hx1 hy fun g hk => hQ g fun c o c1 _ c3 c4 e => hk c o c1 c3 c4 e
  · exact zs_end hh D Z (Array.getElem?_eq_none (by omega)) hQ
end
section
variable {prog : Program} {w : World} {A : Around} {s : Shared} {R : Result → Shared → Prop} {xs ys : Array Value} {z TI TO i j t u S : Addr}
theorem zs_loop2 (hh : A.handled = none) (D : ZipApart z TI TO i j t u) (hlo : ∀ b ∈ [z, TI, TO, i, j, t, u], b < S) (hn : min xs.size ys.size ≤ sizeLine) (res : Value) {h0 : Heap}
    (hR : ∀ g tk acc c as, (∀ b o, b ≠ S → b ≠ z → b ≠ TO → b ≠ i → b ≠ j → h0.get? b = some o → g.get? b = some o) → g.get? S = some { cls := .type "list", dict := none, data := .seq acc c, slots := #[] } → as.length = min xs.size ys.size → ZG xs ys S g as →
      acc.toList = as.map Value.ref → R (.ok (.ret res)) { s with heap := g, toks := tk }) :
    ∀ (n k : Nat) (h : Heap) (tk c : Nat) (acc : Array Value) (as : List Addr), min xs.size ys.size - k = n → k ≤ min xs.size ys.size → ZSt xs ys z TI TO i j t u S k h → (∀ b o, b ≠ S → b ≠ z → b ≠ TO → b ≠ i → b ≠ j → h0.get? b = some o → h.get? b = some o) →
      h.get? S = some { cls := .type "list", dict := none, data := .seq acc c, slots := #[] } → acc.toList = as.map Value.ref → as.length = k → ZG xs ys S h as →
      codeAny (model prog w) A (.builtin "list.extend.loop" ⟨[.ref S, .ref z, res], []⟩) R { s with heap := h, toks := tk } := by
  have nS : ∀ b ∈ [z, TI, TO, i, j, t, u], b ≠ S := fun b hb => Nat.ne_of_lt (hlo b hb)
  have zS := nS z (by simp)
  intro n
  induction n with
  | zero =>
    intro k h tk c acc as hnk hk Z kp hS hacc hal G
    refine codeAny_builtin F.entry_extend_loop ?_
    rw [Around.under_plainId F.plain_extend_loop _]
    show wpAny _ A.in1 (pyNext (.ref z) >>= _) _ _ _
    refine wpAny_bind (zs_end2 (s := { s with heap := h, toks := tk }) (A := A.in1) hh D Z (by omega) fun g hk' => ?_)
    have off : ∀ b o, S < b → h.get? b = some o → g.get? b = some o := fun b o hb e =>
      hk' b o (Nat.ne_of_gt (Nat.lt_trans (hlo z (by simp)) hb)) (Nat.ne_of_gt (Nat.lt_trans (hlo TO (by simp)) hb)) (Nat.ne_of_gt (Nat.lt_trans (hlo i (by simp)) hb)) (Nat.ne_of_gt (Nat.lt_trans (hlo j (by simp)) hb)) e
    refine wpAny_pure (hR g tk acc c as (fun b o b1 b2 b3 b4 b5 e => hk' b o b2 b3 b4 b5 (kp b o b1 b2 b3 b4 b5 e)) (hk' S _ (Ne.symm zS) (Ne.symm (nS TO (by simp))) (Ne.symm (nS i (by simp))) (Ne.symm (nS j (by simp))) hS) (by omega) ⟨G.rise, G.above, fun m a hm => ?_⟩ hacc)
    obtain ⟨x, y, e1, e2, e3⟩ := G.pairs m a hm
    exact ⟨x, y, e1, e2, off a _ (G.above a (List.mem_of_getElem? hm)) e3⟩
  | succ n ih =>
    intro k h tk c acc as hnk hk Z kp hS hacc hal G
    have hlt : k < min xs.size ys.size := by omega
    have hx : xs[k]? = some (xs[k]'(by omega)) := by simp [show k < xs.size by omega]
    have hy : ys[k]? = some (ys[k]'(by omega)) := by simp [show k < ys.size by omega]
    have hsz : acc.size = k := by rw [← Array.length_toList, hacc, List.length_map, hal]
    have hSl : S < h.objs.size := Heap.lt_size hS
    refine codeAny_builtin F.entry_extend_loop ?_
    rw [Around.under_plainId F.plain_extend_loop _]
    show wpAny _ A.in1 (pyNext (.ref z) >>= _) _ _ _
    refine wpAny_bind (zs_item (s := { s with heap := h, toks := tk }) D Z hSl (fun b hb => Nat.lt_trans (hlo b (by simp at hb ⊢; rcases hb with h | h | h <;> simp [h])) hSl) D.TITO hx hy fun g Z' hp hz hk' => ?_)
    dsimp only at hp hz hk' ⊢
    have hS' := hk' S _ (Ne.symm zS) (Ne.symm (nS TO (by simp))) (Ne.symm (nS i (by simp))) (Ne.symm (nS j (by simp))) hS
    have up : ∀ b o, b ≠ S → g.get? b = some o → (g.update S (Obj.mapSeq (·.push (Value.ref h.objs.size)))).get? b = some o := fun b o hb e => (Heap.get?_update_other _ _ (Ne.symm hb)).trans e
    have off : ∀ b o, S < b → h.get? b = some o → g.get? b = some o := fun b o hb e =>
      hk' b o (Nat.ne_of_gt (Nat.lt_trans (hlo z (by simp)) hb)) (Nat.ne_of_gt (Nat.lt_trans (hlo TO (by simp)) hb)) (Nat.ne_of_gt (Nat.lt_trans (hlo i (by simp)) hb)) (Nat.ne_of_gt (Nat.lt_trans (hlo j (by simp)) hb)) e
    have there : ∀ a ∈ as, a < h.objs.size := fun a ha => by
      obtain ⟨m, hm⟩ := List.mem_iff_getElem?.mp ha
      obtain ⟨_, _, _, _, e⟩ := G.pairs m a hm
      exact Heap.lt_size e
    show wpAny _ A.in1 (updateSeq S (·.push (Value.ref h.objs.size)) >>= _) _ _ _
    refine wpAny_bind ?_
    refine wpAny_updateSeq hS' rfl (wpAny_pure ⟨plainId_quiet F.plain_extend_loop _, ih (k + 1) _ tk _ (acc.push (Value.ref h.objs.size)) (as ++ [h.objs.size]) (by omega) hlt (Z'.up nS up)
      (fun b o b1 b2 b3 b4 b5 e => up b o b1 (hk' b o b2 b3 b4 b5 (kp b o b1 b2 b3 b4 b5 e))) (Heap.get?_update_self _ hS' rfl) (by rw [Array.toList_push, hacc, List.map_append]; rfl) (by rw [List.length_append, hal]; rfl) ⟨?_, ?_, ?_⟩⟩) (by rw [hsz]; omega) (by show (acc.push (Value.ref h.objs.size)).size ≤ sizeLine + 1; rw [Array.size_push, hsz]; omega)
    · refine List.pairwise_append.mpr ⟨G.rise, List.pairwise_singleton _ _, fun a ha b hb => ?_⟩
      exact List.mem_singleton.mp hb ▸ there a ha
    · intro a ha
      rcases List.mem_append.mp ha with ha | ha
      · exact G.above a ha
      · exact List.mem_singleton.mp ha ▸ hSl
    · intro m b hm
      by_cases h1 : m < as.length
      · rw [List.getElem?_append_left h1] at hm
        obtain ⟨x', y', e1, e2, e3⟩ := G.pairs m b hm
        have hb := G.above b (List.mem_of_getElem? hm)
        exact ⟨x', y', e1, e2, up b _ (Nat.ne_of_gt hb) (off b _ hb e3)⟩
      · rw [List.getElem?_append_right (by omega)] at hm
        have h2 : m - as.length = 0 := by
          have := (List.getElem?_eq_some_iff.mp hm).1
          simp at this
          omega
        have h3 : m = k := by omega
        rw [h2] at hm
        have hb : h.objs.size = b := by simpa using hm
        subst hb h3
        exact ⟨_, _, hx, hy, up _ _ (Nat.ne_of_gt hSl) hp⟩
theorem zs_extend2 (hh : A.handled = none) (D : ZipApart z TI TO i j t u) (hlo : ∀ b ∈ [z, TI, TO, i, j, t, u], b < S) (hn : min xs.size ys.size ≤ sizeLine) (res : Value) (c0 : Nat)
    (Z : ZSt xs ys z TI TO i j t u S 0 s.heap) (hz : IsZip s.heap z TI TO .none) (hS : s.heap.get? S = some { cls := .type "list", data := .seq #[] c0 })
    (hR : ∀ g tk acc c as, (∀ b o, b ≠ S → b ≠ z → b ≠ TO → b ≠ i → b ≠ j → s.heap.get? b = some o → g.get? b = some o) → g.get? S = some { cls := .type "list", dict := none, data := .seq acc c, slots := #[] } → as.length = min xs.size ys.size → ZG xs ys S g as →
      acc.toList = as.map Value.ref → R (.ok (.ret res)) { s with heap := g, toks := tk }) :
    wpAny (model prog w) A.in1 (Builtin.List.listExtendWith (.ref S) (.ref z) res)
      (fun fin q => match fin with | .done f => R (.ok f) q | .again c => c.quiet = true ∧ codeAny (model prog w) A c R q) (fun e q => R (.error e) q) s := by
  have nS : ∀ b ∈ [z, TI, TO, i, j, t, u], b ≠ S := fun b hb => Nat.ne_of_lt (hlo b hb)
  have hSz : S ≠ z := Ne.symm (nS z (by simp))
  have ty : s.TypeIs (.ref z) "zip" := ⟨_, hz, rfl⟩
  unfold Builtin.List.listExtendWith
  refine wpAny_bind (wpAny_typeOf ty ?_)
  have b1 : Builtin.List.listSameRef (.ref S) (.ref z) = false := by simp [Builtin.List.listSameRef, hSz]
  have b2 : (Value.type "zip" == Value.type "list") = false := by decide
  have b3 : (Value.type "zip" == Value.type "tuple") = false := by decide
  simp only [b1, b2, b3, Bool.or_false, Bool.false_eq_true, if_false]
  refine wpAny_bind (wpAny_pyIter_zip hz ?_)
  refine wpAny_bind (wpAny_holding ?_)
  unfold Builtin.List.listLengthHint
  refine wpAny_bind (wpAny_specialOf ty zip_len_none ?_)
  show wpAny _ A.in1 (specialOf (Value.ref z) (Str.ofString "__length_hint__") >>= _) _ _ s
  refine wpAny_bind (wpAny_specialOf ty zip_hint_none (wpAny_pure ?_))
  show wpAny _ A.in1 (rule "list.extend.makes-room" >>= fun _ => Builtin.List.listTouch (.ref S) >>= fun _ =>
    again (.builtin "list.extend.loop" ⟨[.ref S, .ref z, res], []⟩)) _ _ s
  refine wpAny_bind (wpAny_rule (wpAny_bind ?_))
  show wpAny _ A.in1 (updateSeq S (·.push .none) >>= fun _ => updateSeq S (·.pop)) _ _ s
  refine wpAny_bind (wpAny_updateSeq hS rfl ?_)
  have S2 := Heap.get?_update_self (Obj.mapSeq (·.push Value.none)) hS rfl
  refine wpAny_updateSeq (hz := by seq_fits) S2 rfl ?_
  have S3 := Heap.get?_update_self (Obj.mapSeq (·.pop)) S2 rfl
  have oth : ∀ b o, b ≠ S → s.heap.get? b = some o → ((s.heap.update S (Obj.mapSeq (·.push Value.none))).update S (Obj.mapSeq (·.pop))).get? b = some o :=
    fun b o hb e => (Heap.get?_update_other _ _ (Ne.symm hb)).trans ((Heap.get?_update_other _ _ (Ne.symm hb)).trans e)
  refine wpAny_pure ⟨plainId_quiet F.plain_extend_loop _, zs_loop2 (h0 := s.heap) hh D hlo hn res hR (min xs.size ys.size) 0 _ s.toks _ #[] [] (Nat.sub_zero _) (Nat.zero_le _) (Z.up nS oth) (fun b o b1 _ _ _ _ e => oth b o b1 e) S3 rfl rfl ⟨List.Pairwise.nil, (fun _ ha => nomatch ha), (fun m a hm => by simp at hm)⟩⟩
theorem zs_init2 (hh : A.handled = none) (D : ZipApart z TI TO i j t u) (hlo : ∀ b ∈ [z, TI, TO, i, j, t, u], b < S) (hn : min xs.size ys.size ≤ sizeLine)
    (Z : ZSt xs ys z TI TO i j t u S 0 s.heap) (hz : IsZip s.heap z TI TO .none) (hS : s.heap.get? S = some { cls := .type "list", data := .seq #[] })
    (hR : ∀ g tk acc c as, (∀ b o, b ≠ S → b ≠ z → b ≠ TO → b ≠ i → b ≠ j → s.heap.get? b = some o → g.get? b = some o) → g.get? S = some { cls := .type "list", dict := none, data := .seq acc c, slots := #[] } → as.length = min xs.size ys.size → ZG xs ys S g as →
      acc.toList = as.map Value.ref → R (.ok (.ret .none)) { s with heap := g, toks := tk }) :
    wpAny (model prog w) A.in1 (Builtin.«list.__init__» ⟨[.ref S, .ref z], []⟩)
      (fun fin q => match fin with | .done f => R (.ok f) q | .again c => c.quiet = true ∧ codeAny (model prog w) A c R q) (fun e q => R (.error e) q) s := by
  have nS : ∀ b ∈ [z, TI, TO, i, j, t, u], b ≠ S := fun b hb => Nat.ne_of_lt (hlo b hb)
  show wpAny _ A.in1 (do
    let old ← Builtin.List.listItems (.ref S)
    Builtin.List.listUpdate (.ref S) (fun _ => #[])
    letGo old.toList.reverse
    Builtin.List.listExtendWith (.ref S) (.ref z) .none) _ _ s
  refine wpAny_bind ?_
  unfold Builtin.List.listItems
  refine wpAny_bind (wpAny_seqItems hS rfl (wpAny_pure ?_))
  show wpAny _ A.in1 (updateSeq S (fun _ => #[]) >>= fun _ => letGo (#[] : Array Value).toList.reverse >>= fun _ => Builtin.List.listExtendWith (.ref S) (.ref z) .none) _ _ s
  refine wpAny_bind (wpAny_updateSeq hS rfl ?_)
  have S2 := Heap.get?_update_self (Obj.mapSeq (fun _ => (#[] : Array Value))) hS rfl
  have oth : ∀ b o, b ≠ S → s.heap.get? b = some o → (s.heap.update S (Obj.mapSeq (fun _ => (#[] : Array Value)))).get? b = some o := fun b o hb e => (Heap.get?_update_other _ _ (Ne.symm hb)).trans e
  refine wpAny_bind (wpAny_letGo ?_)
  exact zs_extend2 hh D hlo hn .none _ (Z.up nS oth) (oth _ _ (nS z (by simp)) hz) S2 fun g tk acc c as hk hS' hl hG hacc => hR g tk acc c as (fun b o b1 b2 b3 b4 b5 e => hk b o b1 b2 b3 b4 b5 (oth b o b1 e)) hS' hl hG hacc
end
theorem call_list_zipT2 {prog : Program} {w : World} {A : Around} {E : Value → Shared → Prop} {s : Shared} {xs ys : Array Value} {z TI TO i j t u : Addr} {Q : Value → Shared → Prop}
    (hh : A.handled = none) (D : ZipApart z TI TO i j t u) (hlo : ∀ b ∈ [z, TI, TO, i, j, t, u], b < s.heap.objs.size) (hn : min xs.size ys.size ≤ sizeLine)
    (hz : IsZip s.heap z TI TO .none) (hti : IsPair s.heap TI (.ref i) (.ref j)) (hto : IsPair s.heap TO .none .none) (hi : s.heap.IsTupleIter i t 0) (hj : s.heap.IsTupleIter j u 0) (ht : s.heap.IsTuple t xs) (hu : s.heap.IsTuple u ys)
    (hQ : ∀ g tk acc c as, (∀ b o, b ≠ z → b ≠ TO → b ≠ i → b ≠ j → s.heap.get? b = some o → g.get? b = some o) → g.get? s.heap.objs.size = some { cls := .type "list", dict := none, data := .seq acc c, slots := #[] } → as.length = min xs.size ys.size → ZG xs ys s.heap.objs.size g as →
      acc.toList = as.map Value.ref → Q (.ref s.heap.objs.size) { s with heap := g, toks := tk }) :
    wpAny (model prog w) A (call (.type "list") [.ref z]) Q E s := by
  refine callType_codes (Q₁ := fun obj q => obj = .ref s.heap.objs.size ∧ q = { s with heap := s.heap.push { cls := .type "list", data := .seq #[] } }) F.called_list (F.typeCall_list_1 _) F.entry_list_init
    (code_list_new _ ⟨rfl, rfl⟩) fun obj q hq => ?_
  obtain ⟨rfl, rfl⟩ := hq
  have hS : (s.heap.push { cls := .type "list", data := .seq #[] }).get? s.heap.objs.size = some { cls := .type "list", data := .seq #[] } := Heap.get?_push_size _ rfl
  have ps : ∀ b o, s.heap.get? b = some o → (s.heap.push { cls := .type "list", data := .seq #[] }).get? b = some o := fun b o e => Heap.get?_push_of_some _ e
  refine ⟨⟨_, hS, rfl⟩, F.args_list_init_2 _ _, ?_⟩
  refine zs_init2 (A := A.in1) hh D hlo hn ⟨.inl ⟨ps _ _ hz, _, _, ps _ _ hto⟩, ps _ _ hti, hi.at fun o e => ps _ _ e, hj.at fun o e => ps _ _ e, ht.at fun o e => ps _ _ e, hu.at fun o e => ps _ _ e⟩ (ps _ _ hz) hS fun g tk acc c as hk hS' hl hG hacc => ?_
  exact ⟨rfl, hQ g tk acc c as (fun b o b2 b3 b4 b5 e => hk b o (Nat.ne_of_lt (Heap.lt_size e)) b2 b3 b4 b5 (ps _ _ e)) hS' hl hG hacc⟩
end Nf

set_option Elab.async false
set_option linter.all false
set_option maxRecDepth 100000
namespace Nf
open PySem PySem.Spec PyProof.Rows L2
theorem pairs_laid2 {X : Cx} {pins : List (Addr × Obj)} {σ : L2.St} {H : Hp} {s : Shared} {g : Heap} {tk : Nat} {xs ys : List V} {its1 its2 : List Value} {acc : Array Value} {c : Nat} {as : List Addr} {S : Addr}
    (I : Inv X pins σ H s) (hS0 : s.heap.objs.size ≤ S) (r1 : Vals xs its1) (r2 : Vals ys its2) (hz : xs.length ≤ sizeLine)
    (hk : ∀ b o, s.heap.get? b = some o → g.get? b = some o) (hS : g.get? S = some { cls := .type "list", dict := none, data := .seq acc c, slots := #[] })
    (has : as.length = min its1.toArray.size its2.toArray.size) (G : ZG its1.toArray its2.toArray S g as) (hacc : acc.toList = as.map Value.ref) :
    ∃ H' : Hp, Same H H' ∧ H S = none ∧ (∀ a ∈ as, H a = none) ∧ H' S = some (.lst (as.map V.ref)) ∧ Paired (PrR H') as (xs.zip ys) ∧ Inv X pins σ H' { s with heap := g, toks := tk } := by
  have l1 : xs.length = its1.length := r1.length
  have l2 : ys.length = its2.length := r2.length
  have has' : as.length = min xs.length ys.length := by rw [has, l1, l2]; simp
  have lz : as.length = (xs.zip ys).length := by rw [List.length_zip]; omega
  have hSn : S ∉ as := fun z => Nat.lt_irrefl _ (G.above _ z)
  have nd : as.Nodup := List.Pairwise.imp (fun {a b} (h : a < b) => Nat.ne_of_lt h) G.rise
  have new : ∀ a ∈ as, H a = none := fun a ha => I.hok.fresh (Nat.le_trans hS0 (Nat.le_of_lt (G.above a ha)))
  have newS : H S = none := I.hok.fresh hS0
  have atP := putP_at as (xs.zip ys) (upd H S (.lst (as.map V.ref))) lz nd
  have off : ∀ b, b ∉ as → b ≠ S → putP (upd H S (.lst (as.map V.ref))) as (xs.zip ys) b = H b := fun b h1 h2 => by rw [putP_off as _ _ h1, upd_ne h2]
  have low : ∀ b o, s.heap.get? b = some o → b ∉ as ∧ b ≠ S := fun b o e =>
    ⟨fun z => absurd (Heap.lt_size e) (Nat.not_lt.mpr (Nat.le_trans hS0 (Nat.le_of_lt (G.above b z)))), Nat.ne_of_lt (Nat.lt_of_lt_of_le (Heap.lt_size e) hS0)⟩
  have kp : Same H (putP (upd H S (.lst (as.map V.ref))) as (xs.zip ys)) := fun b v e => by
    rw [off b (fun z => by rw [new b z] at e; cases e) (fun z => by rw [z, newS] at e; cases e)]
    exact e
  have eS : putP (upd H S (.lst (as.map V.ref))) as (xs.zip ys) S = some (.lst (as.map V.ref)) := by rw [putP_off as _ _ hSn, upd_same]
  refine ⟨putP (upd H S (.lst (as.map V.ref))) as (xs.zip ys), kp, newS, new, eS, atP, ?_⟩
  refine I.call' (ch := []) rfl ⟨fun b o q _ _ _ => hk b o q, fun b o q _ _ _ => ⟨o.slots, hk b o q⟩, fun b o q n _ => ?_, fun b o q _ => ⟨o, hk b o q⟩, fun b zs q => kp b _ q, fun b o v q => kp b _ q, fun b ps q => ⟨#[], by rw [kp b _ q]; simp⟩⟩
    (fun b v q => ?_) I.bare fun b z => by simp at z
  · obtain ⟨z1, z2⟩ := low b o q
    rw [off b z1 z2]
    exact n
  · by_cases hb : b ∈ as
    · obtain ⟨m, pk, e1, e2, e3⟩ := LiI.paired_ix atP hb
      have e3' : putP (upd H S (.lst (as.map V.ref))) as (xs.zip ys) b = some (.tup [pk.1, pk.2]) := e3
      rw [e3'] at q
      cases q
      obtain ⟨x, y, f1, f2, f3⟩ := G.pairs m b e1
      rw [List.getElem?_zip_eq_some] at e2
      obtain ⟨u1, g1, ru1⟩ := r1.get e2.1
      obtain ⟨u2, g2, ru2⟩ := r2.get e2.2
      have x1 : u1 = x := by
        have := f1.symm.trans (show its1.toArray[m]? = some u1 by simpa using g1)
        exact (Option.some.inj this).symm
      have y1 : u2 = y := by
        have := f2.symm.trans (show its2.toArray[m]? = some u2 by simpa using g2)
        exact (Option.some.inj this).symm
      subst x1 y1
      exact ⟨by show 2 ≤ sizeLine; decide, [u1, u2], .cons ru1 (.cons ru2 .nil), ⟨_, f3, rfl, _, rfl⟩⟩
    · by_cases hb2 : b = S
      · rw [hb2] at q ⊢
        rw [eS] at q
        cases q
        refine ⟨by rw [List.length_map]; omega, acc.toList, c, by rw [hacc]; exact LiI.vals_refs as, ?_⟩
        rw [Array.toArray_toList]
        exact hS
      · rw [off b hb hb2] at q
        exact (I.hok b v q).stay (fun d w _ y => hk d w y) (fun d y => kp d _ y) fun d zs y => kp d _ y
def tListZip2 (K : PySem.W.Frag) (ta : TA) : TE := fun σ H Q => ta σ H fun vs H1 => ∃ a b xs ys, vs = [.ref a, .ref b] ∧ SqT K H1 a xs ∧ SqT K H1 b ys ∧
  ∀ (H' : Hp) (p : Addr) (ts : List Addr), Same H1 H' → H1 p = none → (∀ t ∈ ts, H1 t = none) → H' p = some (.lst (ts.map V.ref)) → Paired (PrR H') ts (xs.zip ys) → Q (.ref p) H'
theorem pe_listZip2 {X : Cx} {e e2 : Expr} {ta : TA} {p p2 pos pos2 : Pos} (hc : X.calm = true) (hg : Gl X "list") (hm : X.mg "list" = none) (hg2 : Gl X "zip") (hm2 : X.mg "zip" = none) (ha : PA X [e, e2] ta)
    (hs2 : starEach [e, e2] X.env = (false, eval e X.env) :: starEach [e2] X.env := by rfl) (hpl : (backTo pos2 (starEach [e2] X.env)).any (·.1) = false := by rfl)
    (hs : starEach [.Call (.Name "zip" p2) [e, e2] [] pos2] X.env = (false, eval (.Call (.Name "zip" p2) [e, e2] [] pos2) X.env) :: starEach [] X.env := by rfl) :
    PE X (.Call (.Name "list" p) [.Call (.Name "zip" p2) [e, e2] [] pos2] [] pos) (tListZip2 X.K ta) := by
  refine ⟨fun pins s σ H Q I h => ?_⟩
  refine Call_ (ld_blt I hg hm boot_list (PyProof.Rows.callWith_type1 ?_ hs rfl))
  rw [hs]
  show wpAny _ _ (spliced ((false, eval (.Call (.Name "zip" p2) [e, e2] [] pos2) X.env) :: backTo pos (starEach [] X.env))) _ _ s
  refine Calls.spliced_cons ?_
  refine Call_ (ld_blt I hg2 hm2 PyProof.Rows.boot_zip (PyProof.Rows.callWith_type1 (thn (ha.run pos2 pins s σ H _ I h) fun us s1 ⟨vs, H1, I1, r1, q1⟩ => ?_) hs2 hpl))
  obtain ⟨a, b, xs, ys, ex, hqx, hqy, q⟩ := q1
  subst ex
  obtain ⟨u1, u2, eu, ra, rb⟩ := vals2 r1
  subst eu
  obtain rfl : u1 = Value.ref a := ra
  obtain rfl : u2 = Value.ref b := rb
  obtain ⟨its, rv, t1, z1⟩ := I1.tuple hqx
  obtain ⟨its2, rv2, t2, z2⟩ := I1.tuple hqy
  have ha1 : a < s1.heap.objs.size := by obtain ⟨o, ho, _⟩ := id t1; exact Heap.lt_size ho
  have hb1 : b < s1.heap.objs.size := by obtain ⟨o, ho, _⟩ := id t2; exact Heap.lt_size ho
  refine RZ.call_zipT (show s1.heap.IsTuple a its.toArray from t1) (show s1.heap.IsTuple b its2.toArray from t2) fun h' hz hti hto hi hj hsz hk => ?_
  refine Calls.spliced_nil ?_
  have lo5 : ∀ m : Nat, m < 5 → s1.heap.objs.size + m < h'.objs.size := fun m hm => by rw [hsz]; exact Nat.add_lt_add_left hm _
  refine call_list_zipT2 (s := { s1 with heap := h' }) (A := X.A) (I1.ok.hd hc) (PySem.W.ktu_apart s1.heap.objs.size a b ha1 hb1) (fun c hc' => ?_) (by have := rv.length; simp; omega) hz hti hto hi hj
    (Heap.IsTuple.at (show s1.heap.IsTuple a its.toArray from t1) fun o e => hk _ _ e) (Heap.IsTuple.at (show s1.heap.IsTuple b its2.toArray from t2) fun o e => hk _ _ e) fun g tk acc c as hk' hS hl' hG hacc => ?_
  · have e' : c = s1.heap.objs.size + 4 ∨ c = s1.heap.objs.size + 2 ∨ c = s1.heap.objs.size + 3 ∨ c = s1.heap.objs.size ∨ c = s1.heap.objs.size + 1 ∨ c = a ∨ c = b := by simpa using hc'
    rcases e' with z | z | z | z | z | z | z
    · exact z ▸ lo5 4 (by decide)
    · exact z ▸ lo5 2 (by decide)
    · exact z ▸ lo5 3 (by decide)
    · exact z ▸ lo5 0 (by decide)
    · exact z ▸ lo5 1 (by decide)
    · exact z ▸ Nat.lt_trans ha1 (lo5 0 (by decide))
    · exact z ▸ Nat.lt_trans hb1 (lo5 0 (by decide))
  · have hkk : ∀ b o, s1.heap.get? b = some o → g.get? b = some o := fun d o e =>
      have ld := Heap.lt_size e
      hk' d o (Nat.ne_of_lt (Nat.lt_add_right 4 ld)) (Nat.ne_of_lt (Nat.lt_add_right 3 ld)) (Nat.ne_of_lt ld) (Nat.ne_of_lt (Nat.lt_add_right 1 ld)) (hk d o e)
    obtain ⟨H', k1, k2, k2', k3, k4, J⟩ := pairs_laid2 (tk := tk) I1 (show s1.heap.objs.size ≤ h'.objs.size by rw [hsz]; exact Nat.le_add_right _ _) rv rv2 z1 hkk hS hl' hG hacc
    exact ⟨.ref _, H', J, rfl, q H' _ as k1 k2 k2' k3 k4⟩
end Nf

set_option Elab.async false
set_option linter.all false
set_option maxRecDepth 100000
namespace Sh
open PySem L2 Nf
section
variable {X : Cx} {Γ : Gm} {tg : Expr} {p pos : Pos}
def fR1 : D → Option (List D)
  | .int j => if -1000000 ≤ j ∧ j ≤ 1000000 then some (rngD 0 j.toNat) else none
  | _ => none
def fR2 : D → D → Option (List D)
  | .int i, .int j => if -1000000 ≤ i ∧ i ≤ 1000000 ∧ -1000000 ≤ j ∧ j ≤ 1000000 then some (rngD i (j - i).toNat) else none
  | _, _ => none
def i1 (f : D → Option (List D)) (t : Ed) : Id' := fun ρ => Mb (t ρ) fun d => Mo (f d)
def i2 (f : D → D → Option (List D)) (t u : Ed) : Id' := fun ρ => Mb (t ρ) fun d => Mb (u ρ) fun e => Mo (f d e)
theorem di_r1 {a : Expr} {t : Ed} (ha : DE X Γ a t) (hg : Gl X "range") (hm : X.mg "range" = none) (hs : starEach [a] X.env = [(false, eval a X.env)] := by rfl) (hs1 : starEach [a] X.env = (false, eval a X.env) :: starEach [] X.env := by rfl) : DI X Γ tg (.Call (.Name "range" p) [a] [] pos) (i1 fR1 t) :=
  ⟨PI.wk (pi_range1 hg hm (pa_cons ha.p pa_nil hs1) hs) fun σ H Q ⟨R, ρ, n, ds, n', rp, e, q⟩ => by
    obtain ⟨d, m, e1, e⟩ := Mb_some e
    obtain ⟨ee, rfl⟩ := Mo_some e
    refine ⟨R, ρ, n, d, _, rp, e1, fun v R1 H1 rp1 S1 z1 => ?_⟩
    cases z1 with
    | int j =>
      obtain ⟨hj, e⟩ := ite_some ee
      cases e
      exact ⟨j, rfl, by omega, by omega, q _ _ _ R1 H1 rp1 S1 ((rngD_len 0 j.toNat).symm ▸ walk_range) (fun _ _ => True.intro) (rngD_yok 0 _) (by rw [rngD_len, PySem.sizeLine_eq]; omega)⟩
    | _ => cases ee⟩
theorem di_r2 {a b : Expr} {t u : Ed} (ha : DE X Γ a t) (hb : DE X Γ b u) (hg : Gl X "range") (hm : X.mg "range" = none) (hs : starEach [a, b] X.env = [(false, eval a X.env), (false, eval b X.env)] := by rfl) (hs2 : starEach [b] X.env = [(false, eval b X.env)] := by rfl)
    (h1 : starEach [a, b] X.env = (false, eval a X.env) :: starEach [b] X.env := by rfl) (h2 : starEach [b] X.env = (false, eval b X.env) :: starEach [] X.env := by rfl) : DI X Γ tg (.Call (.Name "range" p) [a, b] [] pos) (i2 fR2 t u) :=
  ⟨PI.wk (pi_range2 hg hm (pa_cons ha.p (pa_cons hb.p pa_nil h2) h1) hs hs2) fun σ H Q ⟨R, ρ, n, ds, n', rp, e, q⟩ => by
    obtain ⟨d, m, e1, e⟩ := Mb_some e
    obtain ⟨d2, m2, e2, e⟩ := Mb_some e
    obtain ⟨ee, rfl⟩ := Mo_some e
    refine ⟨R, ρ, n, d, _, rp, e1, fun v R1 H1 rp1 S1 z1 => ⟨R1, ρ, m, d2, _, rp1, e2, fun v2 R2 H2 rp2 S2 z2 => ?_⟩⟩
    cases z1 with
    | int i => cases z2 with
      | int j =>
        obtain ⟨hj, e⟩ := ite_some ee
        cases e
        exact ⟨i, j, rfl, ⟨by omega, by omega, by omega, by omega⟩, q _ _ _ R2 H2 rp2 (S1.trans S2) ((rngD_len i (j - i).toNat).symm ▸ walk_range) (fun _ _ => True.intro) (rngD_yok i _) (by rw [rngD_len, PySem.sizeLine_eq]; omega)⟩
      | _ => cases ee
    | _ => cases ee⟩
/-! zip, enumerate -/
def prs (xs ys : List D) : List D := (xs.zip ys).map fun q => .tup [q.1, q.2]
theorem prs_len (xs ys : List D) : (prs xs ys).length = min xs.length ys.length := by unfold prs; rw [List.length_map, List.length_zip]
theorem prs_yok {c : Cn} {R : Hp} {us vs : List V} {xs ys : List D} (h1 : FzA c R us xs) (h2 : FzA c R vs ys) : YOk c R (prs xs ys) (YPair (fun i => us[i]?) fun i => vs[i]?) := fun i H x H' d hd ⟨T, u, v, hx, hT, hH, hu, hv⟩ => by
  unfold prs at hd
  rw [List.getElem?_map] at hd
  obtain ⟨q, hq, rfl⟩ := Option.map_eq_some_iff.mp hd
  rw [List.getElem?_zip_eq_some] at hq
  obtain ⟨d1, g1, z1⟩ := h1.getV hu
  obtain ⟨d2, g2, z2⟩ := h2.getV hv
  rw [hq.1] at g1; cases g1
  rw [hq.2] at g2; cases g2
  exact .inr ⟨T, [u, v], _, hx, hT, hH, rfl, by show 2 ≤ sizeLine; decide, .cons z1 (.cons z2 .nil)⟩
def fZip : D → D → Option (List D)
  | .tup xs, .tup ys => szl xs.length (prs xs ys)
  | .lst xs, .lst ys => szl xs.length (prs xs ys)
  | _, _ => none
theorem di_zip {a b : Expr} {t u : Ed} {elts : List Expr} {kk : Nat} {tpos : Pos} (ha : DE X Γ a t) (hb : DE X Γ b u) (hg : Gl X "zip") (hm : X.mg "zip" = none) (hs : starEach [a, b] X.env = [(false, eval a X.env), (false, eval b X.env)] := by rfl) (hs2 : starEach [b] X.env = [(false, eval b X.env)] := by rfl)
    (h1 : starEach [a, b] X.env = (false, eval a X.env) :: starEach [b] X.env := by rfl) (h2 : starEach [b] X.env = (false, eval b X.env) :: starEach [] X.env := by rfl) (hpl : (backTo pos (starEach [b] X.env)).any (·.1) = false := by rfl) (hK : X.K = Γ.c.K := by rfl) : DI X Γ (.Tuple elts kk tpos) (.Call (.Name "zip" p) [a, b] [] pos) (i2 fZip t u) :=
  ⟨PI.wk (RZ.pi_zipA hg hm (pa_cons ha.p (pa_cons hb.p pa_nil h2) h1) h1 hpl) fun σ H Q ⟨R, ρ, n, ds, n', rp, e, q⟩ => by
    obtain ⟨d, m, e1, e⟩ := Mb_some e
    obtain ⟨d2, m2, e2, e⟩ := Mb_some e
    obtain ⟨ee, rfl⟩ := Mo_some e
    refine ⟨R, ρ, n, d, _, rp, e1, fun v R1 H1 rp1 S1 z1 => ⟨R1, ρ, m, d2, _, rp1, e2, fun v2 R2 H2 rp2 S2 z2 => ?_⟩⟩
    cases z1 with
    | @tup a1 us xs h1 l1 f1 => cases z2 with
      | @tup a2 vs ys h2 l2 f2 =>
        obtain ⟨hz, rfl⟩ := szl_some ee
        have g1 := S2.le.sqT h1
        refine ⟨a1, a2, us, vs, rfl, .inr ⟨hK ▸ rp2.hp.same.le.sqT g1, hK ▸ rp2.hp.same.le.sqT h2, q _ (fun H => SqT X.K H a1 us ∧ SqT X.K H a2 vs) _ R2 H2 rp2 (S1.trans S2) ?_ ?_ (prs_yok (f1.mono S2.le) f2) (by rw [prs_len]; omega)⟩⟩
        · rw [prs_len, ← f1.len, ← f2.len]; exact walk_zipT (xs := us) (ys := vs) rfl
        · exact fun H3 S => ⟨hK ▸ S.le.sqT g1, hK ▸ S.le.sqT h2⟩
      | _ => cases ee
    | @lst a1 us xs h1 l1 f1 => cases z2 with
      | @lst a2 vs ys h2 l2 f2 =>
        obtain ⟨hz, rfl⟩ := szl_some ee
        have g1 := S2.same _ _ h1
        refine ⟨a1, a2, us, vs, rfl, .inl ⟨SqL.of (rp2.hp.same _ _ g1), SqL.of (rp2.hp.same _ _ h2), q _ (fun H => SqL X.K H a1 us ∧ SqL X.K H a2 vs) _ R2 H2 rp2 (S1.trans S2) ?_ ?_ (prs_yok (f1.mono S2.le) f2) (by rw [prs_len]; omega)⟩⟩
        · rw [prs_len, ← f1.len, ← f2.len]; exact walk_zip (xs := us) (ys := vs) rfl
        · exact fun H3 S => ⟨SqL.of (S _ _ g1), SqL.of (S _ _ h2)⟩
      | _ => cases ee
    | _ => cases ee⟩
def enD (k : Nat) : List D → List D
  | [] => []
  | d :: r => .tup [.int (k : Nat), d] :: enD (k + 1) r
theorem enD_len : ∀ (k : Nat) (xs : List D), (enD k xs).length = xs.length
  | _, [] => rfl
  | k, _ :: r => by unfold enD; rw [List.length_cons, List.length_cons, enD_len (k + 1) r]
theorem enD_get : ∀ (k : Nat) (xs : List D) (i : Nat), (enD k xs)[i]? = xs[i]?.map fun d => .tup [.int ((k + i : Nat)), d]
  | _, [], i => by simp [enD]
  | k, d :: r, 0 => by simp [enD]
  | k, d :: r, i + 1 => by
    unfold enD
    rw [List.getElem?_cons_succ, List.getElem?_cons_succ, enD_get (k + 1) r i, show k + 1 + i = k + (i + 1) by omega]
theorem en_yok {c : Cn} {R : Hp} {us : List V} {xs : List D} (h1 : FzA c R us xs) : YOk c R (enD 0 xs) (YPair (fun i => some (.int (i : Nat))) fun i => us[i]?) := fun i H x H' d hd ⟨T, u, v, hx, hT, hH, hu, hv⟩ => by
  rw [enD_get] at hd
  obtain ⟨d2, hq, rfl⟩ := Option.map_eq_some_iff.mp hd
  obtain ⟨d1, g1, z1⟩ := h1.getV hv
  rw [hq] at g1; cases g1
  cases hu
  exact .inr ⟨T, [.int (i : Nat), v], _, hx, hT, hH, rfl, by show 2 ≤ sizeLine; decide, .cons (by rw [Nat.zero_add]; exact .int _) (.cons z1 .nil)⟩
def fEnum : D → Option (List D)
  | .tup xs => szl xs.length (enD 0 xs)
  | .lst xs => szl xs.length (enD 0 xs)
  | _ => none
theorem di_enum {a : Expr} {t : Ed} {elts : List Expr} {kk : Nat} {tpos : Pos} (ha : DE X Γ a t) (hg : Gl X "enumerate") (hm : X.mg "enumerate" = none) (hs : starEach [a] X.env = [(false, eval a X.env)] := by rfl)
    (h1 : starEach [a] X.env = (false, eval a X.env) :: starEach [] X.env := by rfl) (hK : X.K = Γ.c.K := by rfl) : DI X Γ (.Tuple elts kk tpos) (.Call (.Name "enumerate" p) [a] [] pos) (i1 fEnum t) :=
  ⟨PI.wk (PI.or (pi_enum hg hm (pa_cons ha.p pa_nil h1) hs) (pi_enumT hg hm (pa_cons ha.p pa_nil h1) hs)) fun σ H Q ⟨R, ρ, n, ds, n', rp, e, q⟩ => by
    obtain ⟨d, m, e1, e⟩ := Mb_some e
    obtain ⟨ee, rfl⟩ := Mo_some e
    cases d with
    | lst xs =>
      obtain ⟨hz, rfl⟩ := szl_some ee
      refine .inl ⟨R, ρ, n, _, _, rp, e1, fun v R1 H1 rp1 S1 z1 => ?_⟩
      obtain ⟨a, us, rfl, ha, l, f⟩ := z1.lst_inv
      refine ⟨a, us, rfl, SqL.of (rp1.hp.same _ _ ha), q _ (fun H3 => SqL X.K H3 a us) _ R1 H1 rp1 S1 ?_ (fun H3 S => SqL.of (S _ _ ha)) (en_yok f) (by rw [enD_len]; exact hz)⟩
      rw [enD_len, ← f.len]; exact walk_enum (xs := us)
    | tup xs =>
      obtain ⟨hz, rfl⟩ := szl_some ee
      refine .inr ⟨R, ρ, n, _, _, rp, e1, fun v R1 H1 rp1 S1 z1 => ?_⟩
      obtain ⟨a, us, rfl, ha, l, f⟩ := z1.tup_inv
      refine ⟨a, us, rfl, hK ▸ rp1.hp.same.le.sqT ha, q _ _ _ R1 H1 rp1 S1 ?_ (fun H3 S => hK ▸ S.le.sqT ha) (en_yok f) (by rw [enD_len]; exact hz)⟩
      rw [enD_len, ← f.len]; exact walk_enumT (xs := us)
    | _ => cases ee⟩
/-! list(zip(..)) of tuples -/
theorem HpOk.grow {R H H' : Hp} {n : Nat} {Γ : Gm} (h : HpOk Γ R H n) (S : Same H H') (N : List Addr) (hN : ∀ a ∈ N, H a = none) : HpOk Γ (fun a => if a ∈ N then H' a else R a) H' n ∧ Go Γ R H (fun a => if a ∈ N then H' a else R a) H' := by
  have key : Same R (fun a => if a ∈ N then H' a else R a) := fun a o e => by
    by_cases m : a ∈ N
    · have := h.same a o e
      rw [hN a m] at this; cases this
    · show (if a ∈ N then H' a else R a) = some o
      rw [if_neg m]; exact e
  have new : ∀ a, (fun a => if a ∈ N then H' a else R a) a ≠ none → R a ≠ none ∨ H a = none := fun a e => by
    by_cases m : a ∈ N
    · exact .inr (hN a m)
    · exact .inl (by have : (if a ∈ N then H' a else R a) ≠ none := e; rwa [if_neg m] at this)
  refine ⟨⟨fun a o e => ?_, fun a m => ?_, h.d0, ?_, h.keep.trans (Keep.of_same S), h.r0.trans key, fun a e => ?_⟩, ⟨key, Keep.of_same S, new, fun a e => S.free e⟩⟩
  · have e' : (if a ∈ N then H' a else R a) = some o := e
    by_cases m : a ∈ N
    · rw [if_pos m] at e'; exact e'
    · rw [if_neg m] at e'; exact S _ _ (h.same _ _ e')
  · have : a ∉ N := fun z => Γ.W.there n H h.wd a m (hN a z)
    show (if a ∈ N then H' a else R a) = none
    rw [if_neg this]; exact h.dj a m
  · refine Γ.W.only n H _ h.wd fun a m => ?_
    cases e : H a with
    | none => exact absurd e (Γ.W.there n H h.wd a m)
    | some o => exact S _ _ e
  · rcases new a e with z | z
    · exact h.new a z
    · exact .inr (h.nn z)
theorem paired_mem {α β : Type} {F G : α → β → Prop} : ∀ {l₁ : List α} {l₂ : List β}, Paired F l₁ l₂ → (∀ a ∈ l₁, ∀ b, F a b → G a b) → Paired G l₁ l₂
  | _, _, .nil, _ => .nil
  | _, _, .cons r t, f => .cons (f _ (by simp) _ r) (paired_mem t fun a ha => f a (by simp [ha]))
def fLZ : D → D → Option D
  | .tup xs, .tup ys => some (.lst (prs xs ys))
  | _, _ => none
theorem fz_pairs {c : Cn} {R : Hp} : ∀ {ts : List Addr} {us vs : List V} {xs ys : List D}, Paired (PrR R) ts (us.zip vs) → FzA c R us xs → FzA c R vs ys → FzA c R (ts.map V.ref) (prs xs ys)
  | _, [], _, _, _, h, .nil, _ => by cases h; exact .nil
  | _, _ :: _, [], _, _, h, .cons _ _, .nil => by cases h; exact .nil
  | _, u :: us, v :: vs, _, _, h, .cons a b, .cons a' b' => by
    cases h with
    | cons h1 h2 => exact .cons (.tup (SqT.of h1) (by show 2 ≤ sizeLine; decide) (.cons a (.cons a' .nil))) (fz_pairs h2 b b')
theorem d_lz {a b : Expr} {t u : Ed} {p2 pos2 : Pos} (ha : DE X Γ a t) (hb : DE X Γ b u) (hg : Gl X "list") (hm : X.mg "list" = none) (hg2 : Gl X "zip") (hm2 : X.mg "zip" = none) (hc : X.calm = true := by rfl)
    (h1 : starEach [a, b] X.env = (false, eval a X.env) :: starEach [b] X.env := by rfl) (h2 : starEach [b] X.env = (false, eval b X.env) :: starEach [] X.env := by rfl) (hpl : (backTo pos2 (starEach [b] X.env)).any (·.1) = false := by rfl)
    (hs : starEach [.Call (.Name "zip" p2) [a, b] [] pos2] X.env = (false, eval (.Call (.Name "zip" p2) [a, b] [] pos2) X.env) :: starEach [] X.env := by rfl) (hK : X.K = Γ.c.K := by rfl) :
    DE X Γ (.Call (.Name "list" p) [.Call (.Name "zip" p2) [a, b] [] pos2] [] pos) (e2 fLZ t u) :=
  ⟨PE.wk (pe_listZip2 hc hg hm hg2 hm2 (pa_cons ha.p (pa_cons hb.p pa_nil h2) h1) h1 hpl hs) fun σ H Q ⟨R, ρ, n, r, n', rp, e, q⟩ => by
    obtain ⟨d, m, e1, e⟩ := Mb_some e
    obtain ⟨d2, m2, e2, e⟩ := Mb_some e
    obtain ⟨ee, rfl⟩ := Mo_some e
    refine ⟨R, ρ, n, d, _, rp, e1, fun v R1 H1 rp1 S1 z1 => ⟨R1, ρ, m, d2, _, rp1, e2, fun v2 R2 H2 rp2 S2 z2 => ?_⟩⟩
    cases z1 with
    | @tup a1 us xs h1 l1 f1 => cases z2 with
      | @tup a2 vs ys h2 l2 f2 =>
        cases ee
        have f1' := f1.mono S2.le
        refine ⟨a1, a2, us, vs, rfl, hK ▸ rp2.hp.same.le.sqT (S2.le.sqT h1), hK ▸ rp2.hp.same.le.sqT h2, fun H3 l ts S3 hl0 hts0 hl3 hpp => ?_⟩
        obtain ⟨k, g⟩ := rp2.hp.grow S3 (l :: ts) fun a ha => (List.mem_cons.mp ha).elim (fun z => z ▸ hl0) (hts0 a)
        have hl4 : (fun a => if a ∈ l :: ts then H3 a else R2 a) l = some (.lst (ts.map V.ref)) := by
          show (if l ∈ l :: ts then H3 l else R2 l) = _
          rw [if_pos (by simp)]; exact hl3
        have lt : (ts.map V.ref).length ≤ sizeLine := by
          rw [List.length_map, Paired.length hpp, List.length_zip]; omega
        refine q _ _ H3 (rp2.along g k) ((S1.trans S2).trans g) (.lst hl4 lt (fz_pairs ?_ (f1'.mono g.le) (f2.mono g.le)))
        refine paired_mem hpp fun t ht pr hp => ?_
        show (if t ∈ l :: ts then H3 t else R2 t) = _
        rw [if_pos (List.mem_cons_of_mem _ ht)]; exact hp
      | _ => cases ee
    | _ => cases ee⟩
end
end Sh

set_option Elab.async false
set_option linter.all false
set_option maxRecDepth 100000
namespace Sh
open PySem L2 Nf
/-! comprehensions -/
structure DTs (X : Cx) (Γ : Gm) (es : List Expr) (t : Td) : Prop where
  p : PTs X es (upT Γ t)
def tY : Td := fun _ => Mp true
section
variable {X : Cx} {Γ : Gm}
theorem dts_nil : DTs X Γ [] tY := ⟨⟨fun pins s σ H Q I ⟨R, ρ, n, r, n', rp, e, q⟩ => by
  cases e
  exact pts_nil.run pins s σ H Q I (q R H rp (Go.refl _ _ _))⟩⟩
theorem dts_one {e : Expr} {t : Td} (h : DT X Γ e t) : DTs X Γ [e] t := ⟨pts_one h.p⟩
def lcM (g : Gd) (tt : Td) (te : Ed) (ρ : Sd) : List D → M (List D)
  | [] => Mp []
  | d :: r => Mb (Mo (g d ρ)) fun ρ1 => Mb (tt ρ1) fun b => if b = true then Mb (te ρ1) fun y => Mb (lcM g tt te ρ r) fun ys => Mp (y :: ys) else lcM g tt te ρ r
def eLc (ti : Id') (g : Gd) (tt : Td) (te : Ed) (vs : List Nat) : Ed := fun ρ => Mb (ti ρ) fun ds => Mb (lcM g tt te (wipeD ρ vs) ds) fun rs => Mp (.lst rs)
/-- a yielded item is data -/
theorem yok_step {R R1 H : Hp} {σ : L2.St} {ρ : Sd} {n i : Nat} {ds : List D} {Y : Nat → Hp → V → Hp → Prop} {x : V} {H' : Hp} {d : D} (rp : Rp Γ R H σ ρ n) (hY : YOk Γ.c R1 ds Y) (S : Same R1 R) (hd : ds[i]? = some d) (y : Y i H x H') :
    ∃ R', Rp Γ R' H' σ ρ n ∧ Go Γ R H R' H' ∧ Fz Γ.c R' x d := by
  rcases hY i H x H' d hd y with ⟨rfl, z⟩ | ⟨T, vs, es, rfl, hT, rfl, rfl, l, f⟩
  · exact ⟨R, rp, Go.refl _ _ _, z.mono S.le⟩
  · exact ⟨_, rp.lay hT, rp.go hT, .tup (SqT.of upd_same) l ((f.mono S.le).mono (rp.go hT).le)⟩
theorem Go.stay {R H R' H' : Hp} {p : Addr} {o : HO} (g : Go Γ R H R' H') (hp : H p = some o) (hd : p ∉ Γ.W.dom) (hR : R p = none) : H' p = some o ∧ R' p = none := by
  refine ⟨g.keep p o hp hd, ?_⟩
  cases q : R' p with
  | none => rfl
  | some z =>
    rcases g.new p (by rw [q]; exact fun z => nomatch z) with z | z
    · exact absurd hR z
    · rw [hp] at z; cases z
set_option maxHeartbeats 1000000 in
/-- the reading of a comprehension: the list is new, unfrozen -/
theorem lc_up {ti : Id'} {g : Gd} {tt : Td} {te : Ed} {vs : List Nat} {σ : L2.St} {H : Hp} {Q : VK} {R : Hp} {ρ : Sd} {n : Nat} {r : D} {n' : Nat} (rp : Rp Γ R H σ ρ n) (e : eLc ti g tt te vs ρ n = some (r, n'))
    (q : ∀ (Z : Addr) (us : List V) (R' H' : Hp), Rp Γ R' H' σ ρ n' → Go Γ R H R' H' → H Z = none → NoO Γ σ ρ Z → Γ.H0 Z = none → H' Z = some (.lst us) → R' Z = none → us.length ≤ sizeLine → (∃ rs, r = .lst rs ∧ FzA Γ.c R' us rs) → Q (.ref Z) H') :
    tLc (upI Γ ti) (upG Γ vs g) (upT Γ tt) (up Γ te) vs σ H Q := by
  obtain ⟨ds, m, e1, e⟩ := Mb_some e
  obtain ⟨rs, m2, e2, e⟩ := Mb_some e
  cases e
  · refine ⟨R, ρ, n, ds, m, rp, e1, fun J G Y R1 H1 rp1 S1 W hG hY hzz Z hZ => ?_⟩
    have hR1 : R1 Z = none := rp1.hp.same.free hZ
    have h0 : Γ.H0 Z = none := rp1.hp.nn hZ
    have hdm : Z ∉ Γ.W.dom := fun z => rp1.hp.d0 Z z h0
    have hnO := rp1.noO hZ
    have hHZ : H Z = none := S1.nn Z hZ
    refine lc_it W (fun i H2 => ∃ R2 n2 us as bs, Rp Γ R2 H2 σ ρ n2 ∧ Go Γ R H R2 H2 ∧ Same R1 R2 ∧ H2 Z = some (.lst us) ∧ R2 Z = none ∧ FzA Γ.c R2 us as ∧ lcM g tt te (wipeD ρ vs) (ds.drop i) n2 = some (bs, n') ∧ rs = as ++ bs ∧ as.length ≤ i) ?_ ?_ ?_ ?_
    · exact ⟨R1, m, [], [], rs, rp1.lay0 hZ, S1.lay0 hZ, Same.refl _, upd_same, hR1, .nil, by rw [List.drop_zero]; exact e2, rfl, Nat.le_refl _⟩
    · rintro i H2 _ ⟨R2, n2, us, as, bs, rp2, _, S2, _⟩
      exact hG H2 (S2.trans rp2.hp.same)
    · rintro i x H2 H3 hi ⟨R2, n2, us, as, bs, rp2, g2, S2, hZ2, hRZ2, f2, e3, er, hl⟩ hy
      have hd : ds[i]? = some ds[i] := List.getElem?_eq_getElem hi
      rw [List.drop_eq_getElem_cons hi] at e3
      obtain ⟨R3, rp3, g3, z3⟩ := yok_step rp2 hY S2 hd hy
      obtain ⟨hZ3, hRZ3⟩ := g3.stay hZ2 hdm hRZ2
      obtain ⟨ρ1, n3, e4, e5⟩ := Mb_some e3
      obtain ⟨e4', rfl⟩ := Mo_some e4
      obtain ⟨b, n4, e6, e7⟩ := Mb_some e5
      refine ⟨R3, wipeD ρ vs, n3, ds[i], ρ1, rp3.wipe vs, z3, e4', fun σ1 hl1 ha1 rp1' => ⟨?_, R3, ρ1, n3, b, n4, rp1', e6, fun R4 H4 rp4 g4 => ?_⟩⟩
      · refine wipe_eq (by rw [hl1, wipe_length]) fun j hj => ?_
        rw [ha1 j hj, wipe_out hj]
      · obtain ⟨hZ4, hRZ4⟩ := g4.stay hZ3 hdm hRZ3
        cases b with
        | true =>
          obtain ⟨y, n5, e8, e9⟩ := Mb_some e7
          obtain ⟨ys, n6, e10, e11⟩ := Mb_some e9
          cases e11
          refine iteT ⟨R4, ρ1, n4, y, n5, rp4, e8, fun v R5 H5 rp5 g5 z5 => ?_⟩
          obtain ⟨hZ5, hRZ5⟩ := g5.stay hZ4 hdm hRZ4
          have f5 := ((f2.mono g3.le).mono g4.le).mono g5.le
          have lus : us.length ≤ i := by rw [f2.len]; exact hl
          have g25 := (g3.trans g4).trans g5
          refine ⟨us, hZ5, by omega, R5, n5, us ++ [v], as ++ [y], ys, ?_, (g2.trans g25).mutN hHZ, S2.trans g25.same, upd_same, hRZ5, f5.app (.cons z5 .nil), e10, ?_, ?_⟩
          · exact (rp2.along g25 rp5.hp).mutO hRZ5 h0 hnO
          · rw [er, List.append_assoc]; rfl
          · rw [List.length_append, List.length_singleton]; omega
        | false =>
          have g24 := g3.trans g4
          exact iteF ⟨R4, n4, us, as, bs, rp2.along g24 rp4.hp, g2.trans g24, S2.trans g24.same, hZ4, hRZ4, (f2.mono g3.le).mono g4.le, e7, er, by omega⟩
    · rintro H2 ⟨R2, n2, us, as, bs, rp2, g2, S2, hZ2, hRZ2, f2, e3, er, hl⟩
      rw [List.drop_length] at e3
      cases e3
      rw [List.append_nil] at er
      subst er
      exact q Z us R2 H2 rp2 g2 hHZ hnO h0 hZ2 hRZ2 (by rw [f2.len]; omega) ⟨_, rfl, f2⟩
theorem d_lc {elt tg iter : Expr} {ifs : List Expr} {scope : Scope} {own : List (Str × Nat)} {vs : List Nat} {pos : Pos} {ti : Id'} {g : Gd} {tt : Td} {te : Ed} (hN : X.N.Nodup) (hi : DI X Γ tg iter ti) (ok : BlkOk X.N X.env.scope scope own)
    (hg : ∀ (s : Shared) (H : Hp) (C : Addr) (cl : List (Str × Addr)) (fp : List Addr), DG (X.blk s H scope (compEnvC scope cl C X.env) fp) Γ tg vs g) (ht : ∀ (s : Shared) (H : Hp) (C : Addr) (cl : List (Str × Addr)) (fp : List Addr), DTs (X.blk s H scope (compEnvC scope cl C X.env) fp) Γ ifs tt)
    (he : ∀ (s : Shared) (H : Hp) (C : Addr) (cl : List (Str × Addr)) (fp : List Addr), DE (X.blk s H scope (compEnvC scope cl C X.env) fp) Γ elt te) (hvs : own.map (·.2) = vs := by rfl) (hc : X.calm = true := by rfl) (hs : ∀ x, foldedSetIterable iter X.env x = pure x := by intro _; rfl) :
    DE X Γ (.ListComp elt [⟨tg, iter, ifs, 0⟩] scope pos) (eLc ti g tt te vs) :=
  ⟨PE.wk (pe_lc hc hN hi.p ok (fun s H C cl fp => (hg s H C cl fp).p) (fun s H C cl fp => (ht s H C cl fp).p) (fun s H C cl fp => (he s H C cl fp).p) hs) fun σ H Q ⟨R, ρ, n, r, n', rp, e, q⟩ => by
    rw [hvs]
    refine lc_up rp e fun Z us R' H' rp' g' hZ hnO h0 hZ' hR' hl ⟨rs, er, f⟩ => ?_
    subst er
    exact q _ _ H' (rp'.freeze hZ' hR' h0 hnO) (g'.freeze hZ hR') (.lst upd_same hl (f.mono (same_new hR' _).le))⟩
/-! fresh, unfrozen objects -/
def upO (Γ : Gm) (t : Ed) : TE := fun σ H Q => ∃ R ρ n r n', Rp Γ R H σ ρ n ∧ t ρ n = some (r, n') ∧ ∀ a o R' H', Rp Γ R' H' σ ρ n' → Go Γ R H R' H' → H a = none → H' a = some o → R' a = none → Γ.H0 a = none → NoO Γ σ ρ a → FzO Γ.c R' o r → Q (.ref a) H'
structure DO (X : Cx) (Γ : Gm) (e : Expr) (t : Ed) : Prop where
  p : PE X e (upO Γ t)
theorem d_of {e : Expr} {t : Ed} (h : DO X Γ e t) : DE X Γ e t := ⟨PE.wk h.p fun σ H Q ⟨R, ρ, n, r, n', rp, e, q⟩ => ⟨R, ρ, n, r, n', rp, e, fun a o R' H' rp' g' ha ha' hR h0 hn f =>
  q _ _ H' (rp'.freeze ha' hR h0 hn) (g'.freeze ha hR) ((f.mono (same_new hR o).le).fz upd_same)⟩⟩
theorem do_lst {es : List Expr} {t : Ad} {pos : Pos} {k : Nat} (h : DA X Γ es t) (hl : ∀ ρ n r n', t ρ n = some (r, n') → r.length = k) (hk : k ≤ sizeLine := by decide) : DO X Γ (.List es pos) (eLst t) := ⟨PE.wk (pe_lst h.p) fun σ H Q ⟨R, ρ, n, r, n', rp, e, q⟩ => by
  obtain ⟨ds, m, e1, e⟩ := Mb_some e
  cases e
  refine ⟨R, ρ, n, ds, _, rp, e1, fun vs R1 H1 rp1 S1 z1 => ?_⟩
  have hz : vs.length ≤ sizeLine := by rw [z1.len, hl _ _ _ _ e1]; exact hk
  exact ⟨hz, fun p hp => q p _ R1 _ (rp1.lay0 hp) (S1.lay0 hp) (S1.nn p hp) upd_same (rp1.hp.same.free hp) (rp1.hp.nn hp) (rp1.noO hp) (.lst hz z1)⟩⟩
theorem do_lc {elt tg iter : Expr} {ifs : List Expr} {scope : Scope} {own : List (Str × Nat)} {vs : List Nat} {pos : Pos} {ti : Id'} {g : Gd} {tt : Td} {te : Ed} (hN : X.N.Nodup) (hi : DI X Γ tg iter ti) (ok : BlkOk X.N X.env.scope scope own)
    (hg : ∀ (s : Shared) (H : Hp) (C : Addr) (cl : List (Str × Addr)) (fp : List Addr), DG (X.blk s H scope (compEnvC scope cl C X.env) fp) Γ tg vs g) (ht : ∀ (s : Shared) (H : Hp) (C : Addr) (cl : List (Str × Addr)) (fp : List Addr), DTs (X.blk s H scope (compEnvC scope cl C X.env) fp) Γ ifs tt)
    (he : ∀ (s : Shared) (H : Hp) (C : Addr) (cl : List (Str × Addr)) (fp : List Addr), DE (X.blk s H scope (compEnvC scope cl C X.env) fp) Γ elt te) (hvs : own.map (·.2) = vs := by rfl) (hc : X.calm = true := by rfl) (hs : ∀ x, foldedSetIterable iter X.env x = pure x := by intro _; rfl) :
    DO X Γ (.ListComp elt [⟨tg, iter, ifs, 0⟩] scope pos) (eLc ti g tt te vs) :=
  ⟨PE.wk (pe_lc hc hN hi.p ok (fun s H C cl fp => (hg s H C cl fp).p) (fun s H C cl fp => (ht s H C cl fp).p) (fun s H C cl fp => (he s H C cl fp).p) hs) fun σ H Q ⟨R, ρ, n, r, n', rp, e, q⟩ => by
    rw [hvs]
    refine lc_up rp e fun Z us R' H' rp' g' hZ hnO h0 hZ' hR' hl ⟨rs, er, f⟩ => ?_
    subst er
    exact q _ _ R' H' rp' g' hZ hZ' hR' h0 hnO (.lst hl f)⟩
end
/-! owned slots opened -/
mutual
def D.flat : D → Bool
  | .non => true
  | .bl _ => true
  | .int _ => true
  | .str _ => true
  | .deck => true
  | .tup ds => D.flatA ds
  | _ => false
def D.flatA : List D → Bool
  | [] => true
  | d :: r => D.flat d && D.flatA r
end
abbrev Gm.o (Γ : Gm) : Gm := { Γ with ow := [] }
mutual
theorem Fz.hide {c : Cn} {R R' : Hp} (h : ∀ a xs, Rd R a (.tup xs) → Rd R' a (.tup xs)) : ∀ {v : V} {d : D}, Fz c R v d → d.flat = true → Fz c R' v d
  | _, _, .non, _ => .non
  | _, _, .bl b, _ => .bl b
  | _, _, .int i, _ => .int i
  | _, _, .str x z, _ => .str x z
  | _, .tup ds, .tup q z f, e => .tup (q.imp (h _ _) id) z (FzA.hide h f (by simpa [D.flat] using e))
  | _, _, .lst _ _ _, e => by simp [D.flat] at e
  | _, _, .dk _ _ _, e => by simp [D.flat] at e
  | _, _, .ins _ _, e => by simp [D.flat] at e
  | _, _, .deck, _ => .deck
theorem FzA.hide {c : Cn} {R R' : Hp} (h : ∀ a xs, Rd R a (.tup xs) → Rd R' a (.tup xs)) : ∀ {v : List V} {d : List D}, FzA c R v d → D.flatA d = true → FzA c R' v d
  | _, _, .nil, _ => .nil
  | _, d :: r, .cons a b, e => by
    simp only [D.flatA, Bool.and_eq_true] at e
    exact .cons (Fz.hide h a e.1) (FzA.hide h b e.2)
end
section
variable {Γ : Gm} {R R' H H' : Hp} {σ : L2.St} {ρ : Sd} {n n' : Nat}
theorem HpOk.o (h : HpOk Γ R H n) : HpOk Γ.o R H n := ⟨h.same, h.dj, h.d0, h.wd, h.keep, h.r0, h.new⟩
theorem HpOk.c (h : HpOk Γ.o R H n) : HpOk Γ R H n := ⟨h.same, h.dj, h.d0, h.wd, h.keep, h.r0, h.new⟩
def Owd (Γ : Gm) (σ : L2.St) (ρ : Sd) (a : Addr) : Prop := ∃ i d, i ∈ Γ.ow ∧ ρ[i]? = some (some d) ∧ σ[i]? = some (some (.ref a))
open Classical in
noncomputable def opn (Γ : Gm) (σ : L2.St) (ρ : Sd) (R H : Hp) : Hp := fun a => if Owd Γ σ ρ a then H a else R a
open Classical in
noncomputable def cls (Γ : Gm) (σ : L2.St) (ρ : Sd) (R : Hp) : Hp := fun a => if Owd Γ σ ρ a then none else R a
theorem opn_in {a : Addr} (h : Owd Γ σ ρ a) : opn Γ σ ρ R H a = H a := if_pos h
theorem opn_out {a : Addr} (h : ¬ Owd Γ σ ρ a) : opn Γ σ ρ R H a = R a := if_neg h
theorem cls_in {a : Addr} (h : Owd Γ σ ρ a) : cls Γ σ ρ R a = none := if_pos h
theorem cls_out {a : Addr} (h : ¬ Owd Γ σ ρ a) : cls Γ σ ρ R a = R a := if_neg h
theorem Rp.owd (h : Rp Γ R H σ ρ n) {a : Addr} (q : Owd Γ σ ρ a) : ∃ o d, H a = some o ∧ R a = none ∧ Γ.H0 a = none ∧ FzO Γ.c R o d := by
  obtain ⟨i, d, hi, hd, hs⟩ := q
  obtain ⟨b, o, h1, h2, h3, h4, h5⟩ := h.own i d hi hd
  rw [hs] at h1; cases h1
  exact ⟨o, d, h2, h3, h4, h5⟩
theorem Rp.opnS (h : Rp Γ R H σ ρ n) : Same R (opn Γ σ ρ R H) := fun a o e => by
  by_cases q : Owd Γ σ ρ a
  · obtain ⟨_, _, _, h3, _⟩ := h.owd q
    rw [h3] at e; cases e
  · rw [opn_out q]; exact e
theorem Rp.opn (h : Rp Γ R H σ ρ n) : Rp Γ.o (Sh.opn Γ σ ρ R H) H σ ρ n := by
  have S := h.opnS
  refine ⟨h.len, fun i d _ e => ?_, fun i d hi _ => absurd hi (by simp), fun i j a d1 d2 hi => absurd hi (by simp), ⟨fun a o e => ?_, fun a m => ?_, h.hp.d0, h.hp.wd, h.hp.keep, h.hp.r0.trans S, fun a e => ?_⟩⟩
  · by_cases hi : i ∈ Γ.ow
    · obtain ⟨a, o, h1, h2, h3, h4, h5⟩ := h.own i d hi e
      refine ⟨_, h1, (h5.mono S.le).fz ?_⟩
      rw [opn_in ⟨i, d, hi, e, h1⟩]; exact h2
    · obtain ⟨v, h1, h2⟩ := h.fz i d hi e
      exact ⟨v, h1, h2.mono S.le⟩
  · by_cases q : Owd Γ σ ρ a
    · rw [opn_in q] at e; exact e
    · rw [opn_out q] at e; exact h.hp.same _ _ e
  · have q : ¬ Owd Γ σ ρ a := fun q => by
      obtain ⟨_, _, _, _, h4, _⟩ := h.owd q
      exact h.hp.d0 a m h4
    rw [opn_out q]; exact h.hp.dj a m
  · by_cases q : Owd Γ σ ρ a
    · obtain ⟨_, _, _, _, h4, _⟩ := h.owd q
      exact .inr h4
    · rw [opn_out q] at e; exact h.hp.new a e
/-- behind an expression over opened slots -/
theorem Rp.close (h : Rp Γ R H σ ρ n) (k : HpOk Γ.o R' H' n') (g : Go Γ.o (Sh.opn Γ σ ρ R H) H R' H') :
    Rp Γ (Sh.cls Γ σ ρ R') H' σ ρ n' ∧ Go Γ R H (Sh.cls Γ σ ρ R') H' ∧ ∀ v r, Fz Γ.c R' v r → r.flat = true → Fz Γ.c (Sh.cls Γ σ ρ R') v r := by
  have ow : ∀ a, Owd Γ σ ρ a → ∃ o d, R' a = some o ∧ H' a = some o ∧ Γ.H0 a = none ∧ FzO Γ.c R o d := fun a q => by
    obtain ⟨o, d, h2, h3, h4, h5⟩ := h.owd q
    have e1 : R' a = some o := g.same a o (by rw [opn_in q]; exact h2)
    exact ⟨o, d, e1, k.same _ _ e1, h4, h5⟩
  have S : Same R (Sh.cls Γ σ ρ R') := fun a o e => by
    by_cases q : Owd Γ σ ρ a
    · obtain ⟨_, _, _, h3, _⟩ := h.owd q
      rw [h3] at e; cases e
    · rw [cls_out q]; exact g.same a o (by rw [opn_out q]; exact e)
  have nw : ∀ a, Sh.cls Γ σ ρ R' a ≠ none → R a ≠ none ∨ H a = none := fun a e => by
    by_cases q : Owd Γ σ ρ a
    · exact absurd (cls_in q) e
    · rw [cls_out q] at e
      rcases g.new a e with z | z
      · rw [opn_out q] at z; exact .inl z
      · exact .inr z
  refine ⟨⟨h.len, fun i d hi e => ?_, fun i d hi e => ?_, h.dist, ⟨fun a o e => ?_, fun a m => ?_, h.hp.d0, k.wd, k.keep, h.hp.r0.trans S, fun a e => ?_⟩⟩, ⟨S, g.keep, nw, g.nn⟩, fun v r z fl => Fz.hide (fun a xs q => ?_) z fl⟩
  · obtain ⟨v, h1, h2⟩ := h.fz i d hi e
    exact ⟨v, h1, h2.mono S.le⟩
  · obtain ⟨a, o, h1, h2, h3, h4, h5⟩ := h.own i d hi e
    have q : Owd Γ σ ρ a := ⟨i, d, hi, e, h1⟩
    have e1 : R' a = some o := g.same a o (by rw [opn_in q]; exact h2)
    exact ⟨a, o, h1, k.same _ _ e1, cls_in q, h4, h5.mono S.le⟩
  · by_cases q : Owd Γ σ ρ a
    · rw [cls_in q] at e; cases e
    · rw [cls_out q] at e; exact k.same _ _ e
  · by_cases q : Owd Γ σ ρ a
    · exact cls_in q
    · rw [cls_out q]; exact k.dj a m
  · rcases nw a e with z | z
    · exact h.hp.new a z
    · exact .inr (h.hp.nn z)
  · have nq : ¬ Owd Γ σ ρ a := fun z => by
      obtain ⟨o, d, e1, _, _, f⟩ := ow a z
      rcases q with q | ⟨o', q⟩
      · rw [e1] at q; cases q; cases f
      · rw [e1] at q; cases q; cases f
    rcases q with q | ⟨o', q⟩
    · exact .inl (by rw [cls_out nq]; exact q)
    · exact .inr ⟨o', by rw [cls_out nq]; exact q⟩
variable {X : Cx} {e : Expr}
def eFl (t : Ed) : Ed := fun ρ => Mb (t ρ) fun d => Mo (if d.flat = true then some d else none)
theorem d_open {t : Ed} (h : DE X Γ.o e t) : DE X Γ e (eFl t) := ⟨PE.wk h.p fun σ H Q ⟨R, ρ, n, r, n', rp, e, q⟩ => by
  obtain ⟨d, m, e1, e⟩ := Mb_some e
  obtain ⟨ee, rfl⟩ := Mo_some e
  obtain ⟨fl, ee⟩ := ite_some ee
  cases ee
  refine ⟨_, ρ, n, r, _, rp.opn, e1, fun v R1 H1 rp1 g1 z1 => ?_⟩
  obtain ⟨rp2, g2, hh⟩ := rp.close rp1.hp g1
  exact q v _ H1 rp2 g2 (hh v r z1 fl)⟩
theorem dt_open {t : Td} (h : DT X Γ.o e t) : DT X Γ e t := ⟨PT.wk h.p fun σ H Q ⟨R, ρ, n, r, n', rp, e, q⟩ => by
  refine ⟨_, ρ, n, r, _, rp.opn, e, fun R1 H1 rp1 g1 => ?_⟩
  obtain ⟨rp2, g2, _⟩ := rp.close rp1.hp g1
  exact q _ H1 rp2 g2⟩
end
/-! calls of defs -/
def spM (c : Cn) (W : Wd) (f : List D → M D) : Sp := fun vs H Q _ => ∃ R ds r n n', FzA c R vs ds ∧ HpOk ⟨c, W, [], H, R⟩ R H n ∧ f ds n = some (r, n') ∧ ∀ v R' H', HpOk ⟨c, W, [], H, R⟩ R' H' n' → Fz c R' v r → Q v H'
def eCall (f : List D → M D) (t : Ad) : Ed := fun ρ => Mb (t ρ) f
section
variable {X : Cx} {Γ : Gm} {k : Nat} {fa : Addr} {fd : FuncData} {ps : List Str} {f : List D → M D} {x : Str} {p pos : Pos} {e : Expr} {es : List Expr} {t : Ad}
theorem call_up {σ : L2.St} {H : Hp} {Q : VK} {E : XK} (h : up Γ (eCall f t) σ H Q) : upA Γ t σ H fun vs H1 => spM Γ.c Γ.W f (vs ++ []) H1 Q E := by
  obtain ⟨R, ρ, n, r, n', rp, e, q⟩ := h
  obtain ⟨ds, m, e1, e⟩ := Mb_some e
  refine ⟨R, ρ, n, ds, m, rp, e1, fun vs R1 H1 rp1 g1 z1 => ?_⟩
  show spM Γ.c Γ.W f (vs ++ []) H1 Q E
  rw [List.append_nil]
  exact ⟨R1, ds, r, m, n', z1, rp1.hp.enter, e, fun v R2 H2 k z => q v R2 H2 (rp1.then k) (g1.trans (HpOk.go k)) z⟩
theorem d_call (F : FnOk X.prog X.w X.K X.mg X.base CX0 k fa fd ps (spM Γ.c Γ.W f)) (hr : Room k X.A) (hg : Gl X x) (hm : X.mg x = some (.ref fa)) (hk : PySem.W.keepIn X.K (.ref fa) = true) (hb : Binds X.K fd ps []) (ha : DA X Γ (e :: es) t)
    (he : starEach (e :: es) X.env = (false, eval e X.env) :: starEach es X.env := by rfl) (hpl : (backTo pos (starEach es X.env)).any (·.1) = false := by rfl) (hdb : (x == ("__debug__" : Str)) = false := by decide) : DE X Γ (.Call (.Name x p) (e :: es) [] pos) (eCall f t) :=
  ⟨PE.wk (pe_call F hr hg hm hk hb .nil pass0 ha.p hdb he hpl) fun σ H Q h => call_up h⟩
end
end Sh

set_option Elab.async false
set_option linter.all false
set_option maxRecDepth 100000
namespace Sh
open PySem PySem.Spec PyProof.Rows L2
theorem ext_tup {l b : Addr} {ys zs : Array Value} {n m : Nat} {dd : Option Addr} {sl : Array (Option Value)} (h0 : ¬(!ys.isEmpty && Builtin.List.listTooLong (ys.size + zs.size)) = true) (h1 : ys.size ≤ sizeLine) (h2 : ys.size + zs.size ≤ sizeLine + 1) :
    Meets (Builtin.«list.extend» ⟨[.ref l, .ref b], []⟩) (fun _ R s => s.heap.get? l = some { cls := .type "list", data := .seq ys n } ∧
      s.heap.get? b = some { cls := .type "tuple", dict := dd, data := .seq zs m, slots := sl } ∧ R (.ok (.ret Value.none)) { s with heap := s.heap.update l (Obj.mapSeq fun x => x ++ zs), toks := s.toks }) :=
  .of_wp fun prog w A R s h => by
    obtain ⟨hp, g, d, tk, os⟩ := s
    obtain ⟨hl, hb, h⟩ := h
    have g1 := F.sub_tuple_list
    have g2 := F.sub_tuple_tuple
    have g3 := F.sub_list_list
    have hz' : (ys ++ zs).size ≤ sizeLine + 1 := by rw [Array.size_append]; exact h2
    wp_walk using (wpAny_updateSeq hl rfl (hz := h1) (_hz' := hz')), wpAny_loadPart' hl, wpAny_loadPart' hb
    exact ⟨_, rfl, h⟩
def rExtT (K : PySem.W.Frag) : V → List V → Hp → VK → Prop := fun x vs H Q => ∃ l b xs zs, x = .ref l ∧ vs = [.ref b] ∧ H l = some (.lst xs) ∧ SqT K H b zs ∧ xs.length + zs.length ≤ sizeLine ∧ Q .non (upd H l (.lst (xs ++ zs)))
theorem mt_extT {X : Cx} : MtM X "list.extend" (rExtT X.K) := by
  intro pins s σ H x vs v us Q I rx rv h
  obtain ⟨l, b, xs, zs, rfl, rfl, hH, hB, hz, q⟩ := h
  cases rx
  obtain ⟨u, rfl, ru⟩ := rv.one
  cases ru
  obtain ⟨z, its, n, r, hl, e⟩ := I.lstM hH
  obtain ⟨its2, r2, p2, hz2⟩ := I.tuple hB
  obtain ⟨⟨cls, dd, data, sl⟩, e2, hc, m, hd⟩ := p2
  simp only at hc hd
  subst hc hd
  have hs : its.toArray.size + its2.toArray.size ≤ sizeLine := by rw [List.size_toArray, List.size_toArray, ← hl, ← r2.length]; exact hz
  have long : ¬ (!its.toArray.isEmpty && Builtin.List.listTooLong (its.toArray.size + its2.toArray.size)) = true := by
    rw [notLongL hs, Bool.and_false]
    decide
  refine call_meets F.slot_list_extend ⟨_, e, rfl⟩ F.entry_list_extend (F.args_list_extend_2 _ _) (ext_tup long (by rw [List.size_toArray]; omega) (by omega)) ⟨e, e2, ?_⟩
  exact ⟨.non, _, I.lset (its' := its ++ its2) hH e (by simp) (r.append r2) (by rw [List.length_append]; exact hz), rfl, q⟩
end Sh
namespace Sh
open PySem L2 Nf
/-! statements -/
inductive Fl where
  | next (ρ : Sd) | ret (d : D) | brk (ρ : Sd) | cont (ρ : Sd)
abbrev Bd := Sd → M Fl
def Kx (Γ : Gm) (E : Ends) (R : Hp) (n' : Nat) : Fl → Prop
  | .next ρ' => ∀ R' H' σ', Rp Γ R' H' σ' ρ' n' → Same R R' → E.nx σ' H'
  | .ret d => ∀ v R' H', HpOk Γ R' H' n' → Fz Γ.c R' v d → E.rt v H'
  | .brk ρ' => ∀ R' H' σ', Rp Γ R' H' σ' ρ' n' → Same R R' → E.bk σ' H'
  | .cont ρ' => ∀ R' H' σ', Rp Γ R' H' σ' ρ' n' → Same R R' → E.ct σ' H'
theorem Kx.mono {Γ : Gm} {E : Ends} {R R1 : Hp} {n' : Nat} {fl : Fl} (h : Kx Γ E R n' fl) (S : Same R R1) : Kx Γ E R1 n' fl := by
  cases fl with
  | next ρ' => exact fun R' H' σ' rp S' => h R' H' σ' rp (S.trans S')
  | ret d => exact h
  | brk ρ' => exact fun R' H' σ' rp S' => h R' H' σ' rp (S.trans S')
  | cont ρ' => exact fun R' H' σ' rp S' => h R' H' σ' rp (S.trans S')
def upS (Γ : Gm) (t : Bd) : TS := fun E σ H => ∃ R ρ n fl n', Rp Γ R H σ ρ n ∧ t ρ n = some (fl, n') ∧ Kx Γ E R n' fl
structure DS (X : Cx) (Γ : Gm) (s : Stmt) (t : Bd) : Prop where
  p : PS X s (upS Γ t)
structure DB (X : Cx) (Γ : Gm) (s : List Stmt) (t : Bd) : Prop where
  p : PSs X s (upS Γ t)
section
variable {X : Cx} {Γ : Gm} {st : Stmt} {rest : List Stmt} {t u : Bd} {pos : Pos}
def bNil : Bd := fun ρ => Mp (.next ρ)
def bSeq (t u : Bd) : Bd := fun ρ => Mb (t ρ) fun fl => match fl with
  | .next ρ' => u ρ'
  | o => Mp o
theorem db_nil : DB X Γ [] bNil := ⟨PSs.wk pss_nil fun E σ H ⟨R, ρ, n, fl, n', rp, e, q⟩ => by
  cases e; exact q R H σ rp (Same.refl _)⟩
theorem db_cons (h1 : DS X Γ st t) (h2 : DB X Γ rest u) : DB X Γ (st :: rest) (bSeq t u) := ⟨PSs.wk (pss_cons h1.p h2.p) fun E σ H ⟨R, ρ, n, fl, n', rp, e, q⟩ => by
  obtain ⟨f1, m, e1, e⟩ := Mb_some e
  refine ⟨R, ρ, n, f1, m, rp, e1, ?_⟩
  cases f1 with
  | next ρ1 => exact fun R' H' σ' rp' S => ⟨R', ρ1, m, fl, n', rp', e, q.mono S⟩
  | ret d => cases e; exact q
  | brk ρ' => cases e; exact q
  | cont ρ' => cases e; exact q⟩
theorem db_one (h1 : DS X Γ st t) : DB X Γ [st] t := ⟨pss_one h1.p⟩
theorem ds_pass : DS X Γ (.Pass pos) bNil := ⟨PS.wk ps_pass fun E σ H ⟨R, ρ, n, fl, n', rp, e, q⟩ => by
  cases e; exact q R H σ rp (Same.refl _)⟩
theorem ds_cont : DS X Γ (.Continue pos) (fun ρ => Mp (.cont ρ)) := ⟨PS.wk ps_continue fun E σ H ⟨R, ρ, n, fl, n', rp, e, q⟩ => by
  cases e; exact q R H σ rp (Same.refl _)⟩
theorem ds_brk : DS X Γ (.Break pos) (fun ρ => Mp (.brk ρ)) := ⟨PS.wk ps_break fun E σ H ⟨R, ρ, n, fl, n', rp, e, q⟩ => by
  cases e; exact q R H σ rp (Same.refl _)⟩
def sRet (t : Ed) : Bd := fun ρ => Mb (t ρ) fun d => Mp (.ret d)
theorem ds_ret {e : Expr} {t : Ed} (h : DE X Γ.o e t) : DS X Γ (.Return (some e) pos) (sRet t) := ⟨PS.wk (ps_ret h.p) fun E σ H ⟨R, ρ, n, fl, n', rp, e, q⟩ => by
  obtain ⟨d, m, e1, e⟩ := Mb_some e
  cases e
  exact ⟨_, ρ, n, d, _, rp.opn, e1, fun v R1 H1 rp1 g1 z1 => q v R1 H1 rp1.hp.c z1⟩⟩
theorem ds_retN : DS X Γ (.Return none pos) (fun ρ => Mp (.ret .non)) := ⟨PS.wk ps_retN fun E σ H ⟨R, ρ, n, fl, n', rp, e, q⟩ => by
  cases e; exact q .non R H rp.hp .non⟩
def sSet (i : Nat) (t : Ed) : Bd := fun ρ => Mb (t ρ) fun d => Mp (.next (ρ.set i (some d)))
theorem ds_set {i : Nat} {x : Str} {e : Expr} {t : Ed} {pos' : Pos} (hN : X.N.Nodup) (hi : X.N[i]? = some x) (hx : Loc X.env.scope x) (h : DE X Γ e t) (hio' : Γ.ow.contains i = false := by rfl) (hs : swapsWith e (some (.Name x pos')) pos.line X.env = pure false := by rfl)
    (hf : X.fn x = true ∨ X.env.scope.names.lookup x = some .local := by first | exact .inl rfl | exact .inr rfl) : DS X Γ (.Assign [.Name x pos'] e pos) (sSet i t) := have hio := nmem_of hio'; ⟨PS.wk (ps_set hN hi hx h.p hs hf) fun E σ H ⟨R, ρ, n, fl, n', rp, e, q⟩ => by
  obtain ⟨d, m, e1, e⟩ := Mb_some e
  cases e
  exact ⟨R, ρ, n, d, _, rp, e1, fun v R1 H1 rp1 g1 z1 => q R1 H1 _ (rp1.set hio z1) g1.same⟩⟩
/-- an owned slot gets a fresh object -/
theorem ds_setO {i : Nat} {x : Str} {e : Expr} {t : Ed} {pos' : Pos} (hN : X.N.Nodup) (hi : X.N[i]? = some x) (hx : Loc X.env.scope x) (h : DO X Γ e t) (hio' : Γ.ow.contains i = true := by rfl) (hs : swapsWith e (some (.Name x pos')) pos.line X.env = pure false := by rfl)
    (hf : X.fn x = true ∨ X.env.scope.names.lookup x = some .local := by first | exact .inl rfl | exact .inr rfl) : DS X Γ (.Assign [.Name x pos'] e pos) (sSet i t) := have hio := mem_of hio'; ⟨PS.wk (ps_set hN hi hx h.p hs hf) fun E σ H ⟨R, ρ, n, fl, n', rp, e, q⟩ => by
  obtain ⟨d, m, e1, e⟩ := Mb_some e
  cases e
  exact ⟨R, ρ, n, d, _, rp, e1, fun a o R1 H1 rp1 g1 ha ha1 hR h0 hn f => q R1 H1 _ (rp1.setO hio ha1 hR h0 f fun j e hj _ he => hn j e hj he) g1.same⟩⟩
/-- name = [.. for ..] -/
theorem ds_setLc {i : Nat} {y : Str} {py : Pos} {elt tg iter : Expr} {ifs : List Expr} {scope : Scope} {own : List (Str × Nat)} {vs : List Nat} {spos : Pos} {ti : Id'} {g : Gd} {tt : Td} {te : Ed} (hN : X.N.Nodup) (hy : X.N[i]? = some y) (hyl : X.env.scope.names.lookup y = some .local)
    (hsw : swapsWith (.ListComp elt [⟨tg, iter, ifs, 0⟩] scope pos) (some (.Name y py)) spos.line X.env = pure true) (hi : DI X Γ tg iter ti) (ok : BlkOk X.N X.env.scope scope own)
    (hg : ∀ (s : Shared) (H : Hp) (C : Addr) (cl : List (Str × Addr)) (fp : List Addr), DG (X.blk s H scope (compEnvC scope cl C X.env) fp) Γ tg vs g) (ht : ∀ (s : Shared) (H : Hp) (C : Addr) (cl : List (Str × Addr)) (fp : List Addr), DTs (X.blk s H scope (compEnvC scope cl C X.env) fp) Γ ifs tt)
    (he : ∀ (s : Shared) (H : Hp) (C : Addr) (cl : List (Str × Addr)) (fp : List Addr), DE (X.blk s H scope (compEnvC scope cl C X.env) fp) Γ elt te) (hvs : own.map (·.2) = vs := by rfl) (hc : X.calm = true := by rfl) (hs : ∀ x, foldedSetIterable iter X.env x = pure x := by intro _; rfl) :
    DS X Γ (.Assign [.Name y py] (.ListComp elt [⟨tg, iter, ifs, 0⟩] scope pos) spos) (sSet i (eLc ti g tt te vs)) :=
  ⟨PS.wk (ps_setLc hc hN hy hyl hsw hi.p ok (fun s H C cl fp => (hg s H C cl fp).p) (fun s H C cl fp => (ht s H C cl fp).p) (fun s H C cl fp => (he s H C cl fp).p) hs) fun E σ H ⟨R, ρ, n, fl, n', rp, e, q⟩ => by
    obtain ⟨d, m, e1, e⟩ := Mb_some e
    cases e
    rw [hvs]
    refine lc_up rp e1 fun Z us R' H' rp' g' hZ hnO h0 hZ' hR' hl ⟨rs, er, f⟩ => ?_
    subst er
    by_cases hio : i ∈ Γ.ow
    · exact q R' H' _ (rp'.setO hio hZ' hR' h0 (.lst hl f) fun j e hj _ he => hnO j e hj he) g'.same
    · exact q _ H' _ ((rp'.freeze hZ' hR' h0 hnO).set hio (.lst upd_same hl (f.mono (same_new hR' _).le))) (g'.freeze hZ hR').same⟩
def sAsg (t : Ed) (g : Gd) : Bd := fun ρ => Mb (t ρ) fun d => Mb (Mo (g d ρ)) fun ρ' => Mp (.next ρ')
theorem ds_asg {tg e : Expr} {t : Ed} {vs : List Nat} {g : Gd} (h : DE X Γ e t) (hg : DG X Γ tg vs g) (hs : swapsWithSole [tg] e pos.line X.env = pure false := by rfl) (hw : swappedStores [tg] e X.env = pure none := by rfl)
    (h1 : (assignEach [tg] X.env).map (·.2) = [assign tg X.env] := by rfl) : DS X Γ (.Assign [tg] e pos) (sAsg t g) := ⟨PS.wk (ps_asg h.p hg.p hs hw h1) fun E σ H ⟨R, ρ, n, fl, n', rp, e, q⟩ => by
  obtain ⟨d, m, e1, w1⟩ := Mb_some e
  obtain ⟨ρ1, m1, e2, w2⟩ := Mb_some w1
  obtain ⟨e3, rfl⟩ := Mo_some e2
  cases w2
  exact ⟨R, ρ, n, d, _, rp, e1, fun v R1 H1 rp1 g1 z1 => ⟨R1, ρ, _, d, ρ1, rp1, z1, e3, fun σ' _ _ rp2 => q R1 H1 σ' rp2 g1.same⟩⟩⟩
def sIf (c : Td) (t u : Bd) : Bd := fun ρ => Mb (c ρ) fun b => if b = true then t ρ else u ρ
theorem ds_if {c : Expr} {a b : List Stmt} {pc : Td} (hc : DT X Γ c pc) (ha : DB X Γ a t) (hb : DB X Γ b u) : DS X Γ (.If c a b pos) (sIf pc t u) := ⟨PS.wk (ps_if hc.p ha.p hb.p) fun E σ H ⟨R, ρ, n, fl, n', rp, e, q⟩ => by
  obtain ⟨d, m, e1, e⟩ := Mb_some e
  refine ⟨R, ρ, n, d, m, rp, e1, fun R1 H1 rp1 g1 => ?_⟩
  cases d with
  | true => exact iteT ⟨R1, ρ, m, fl, n', rp1, e, q.mono g1.same⟩
  | false => exact iteF ⟨R1, ρ, m, fl, n', rp1, e, q.mono g1.same⟩⟩
/-! loops -/
def wM (c : Td) (b : Bd) : Nat → Bd
  | 0, _ => fun _ => none
  | k + 1, ρ => Mb (c ρ) fun x => if x = true then Mb (b ρ) fun fl => match fl with
      | .next ρ' => wM c b k ρ'
      | .cont ρ' => wM c b k ρ'
      | .brk ρ' => Mp (.next ρ')
      | .ret d => Mp (.ret d)
    else Mp (.next ρ)
/-- as many turns as any loop here can have -/
def FU : Nat := 1000000000
def sWh (c : Td) (b : Bd) : Bd := wM c b FU
theorem ds_wh {c : Expr} {body : List Stmt} {pc : Td} (hc : DT X Γ c pc) (hb : DB X Γ body t) (hp : PassesOwn (model X.prog X.w) X.A X.env X.xe := by exact PassesOwn.never) : DS X Γ (.While c body [] pos) (sWh pc t) := ⟨PS.wk (ps_while hp hc.p hb.p) fun E σ H ⟨R, ρ, n, fl, n', rp, e, q⟩ => by
  refine ⟨fun k σ H => ∃ R1 ρ n, Rp Γ R1 H σ ρ n ∧ Same R R1 ∧ wM pc t k ρ n = some (fl, n'), ⟨FU, R, ρ, n, rp, Same.refl _, e⟩, ?_⟩
  rintro k σ1 H1 ⟨R1, ρ1, n1, rp1, S1, e⟩
  cases k with
  | zero => cases e
  | succ k =>
    obtain ⟨x, m, e1, e⟩ := Mb_some e
    refine ⟨R1, ρ1, n1, x, m, rp1, e1, fun R2 H2 rp2 g2 => ?_⟩
    cases x with
    | false => cases e; exact iteF (q R2 H2 σ1 rp2 (S1.trans g2.same))
    | true =>
      obtain ⟨f1, m2, e2, e⟩ := Mb_some e
      refine iteT ⟨fun σ' H' => ∃ R1 ρ n, Rp Γ R1 H' σ' ρ n ∧ Same R R1 ∧ wM pc t k ρ n = some (fl, n'), fun σ' H' h => ⟨k, Nat.lt_succ_self k, h⟩, ?_⟩
      refine ⟨R2, ρ1, m, f1, m2, rp2, e2, ?_⟩
      cases f1 with
      | next ρ' => exact fun R' H' σ' rp' S' => ⟨R', ρ', m2, rp', (S1.trans g2.same).trans S', e⟩
      | cont ρ' => exact fun R' H' σ' rp' S' => ⟨R', ρ', m2, rp', (S1.trans g2.same).trans S', e⟩
      | brk ρ' => cases e; exact fun R' H' σ' rp' S' => q R' H' σ' rp' ((S1.trans g2.same).trans S')
      | ret d => cases e; exact q⟩
def fM (g : Gd) (b : Bd) : List D → Bd
  | [], ρ => Mp (.next ρ)
  | d :: r, ρ => Mb (Mo (g d ρ)) fun ρ1 => Mb (b ρ1) fun fl => match fl with
      | .next ρ' => fM g b r ρ'
      | .cont ρ' => fM g b r ρ'
      | .brk ρ' => Mp (.next ρ')
      | .ret d => Mp (.ret d)
def sFor (ti : Id') (g : Gd) (b : Bd) : Bd := fun ρ => Mb (ti ρ) fun ds => fM g b ds ρ
theorem ds_for {tg iter : Expr} {body : List Stmt} {ti : Id'} {vs : List Nat} {g : Gd} (hi : DI X Γ tg iter ti) (hg : DG X Γ tg vs g) (hb : DB X Γ body t) (hc : X.calm = true := by rfl) (hp : PassesOwn (model X.prog X.w) X.A X.env X.xe := by exact PassesOwn.never) (hs : ∀ x, foldedSetIterable iter X.env x = pure x := by intro _; rfl) :
    DS X Γ (.For tg iter body [] pos) (sFor ti g t) := ⟨PS.wk (ps_for hp hc hi.p hg.p hb.p hs) fun E σ H ⟨R, ρ, n, fl, n', rp, e, q⟩ => by
  obtain ⟨ds, m, e1, e⟩ := Mb_some e
  refine ⟨R, ρ, n, ds, m, rp, e1, fun J G Y R1 H1 rp1 S1 W hG hY hz => ?_⟩
  refine for_it W (fun i σ H => ∃ R2 ρ2 n2, Rp Γ R2 H σ ρ2 n2 ∧ Same R1 R2 ∧ fM g t (ds.drop i) ρ2 n2 = some (fl, n')) ?_ ?_ ?_ ?_
  · exact ⟨R1, ρ, m, rp1, Same.refl _, by rw [List.drop_zero]; exact e⟩
  · rintro i σ2 H2 _ ⟨R2, ρ2, n2, rp2, S2, _⟩
    exact hG H2 (S2.trans rp2.hp.same)
  · rintro i x σ2 H2 H3 hi ⟨R2, ρ2, n2, rp2, S2, e2⟩ hy
    have hd : ds[i]? = some ds[i] := List.getElem?_eq_getElem hi
    rw [List.drop_eq_getElem_cons hi] at e2
    obtain ⟨R3, rp3, g3, z3⟩ := yok_step rp2 hY S2 hd hy
    obtain ⟨ρ4, n3, e4, e5⟩ := Mb_some e2
    obtain ⟨e4', rfl⟩ := Mo_some e4
    obtain ⟨f1, n5, e6, e7⟩ := Mb_some e5
    refine ⟨R3, ρ2, _, ds[i], ρ4, rp3, z3, e4', fun σ4 _ _ rp4 => ⟨R3, ρ4, _, f1, n5, rp4, e6, ?_⟩⟩
    have S13 := S2.trans g3.same
    cases f1 with
    | next ρ' => exact fun R' H' σ' rp' S' => ⟨R', ρ', n5, rp', S13.trans S', e7⟩
    | cont ρ' => exact fun R' H' σ' rp' S' => ⟨R', ρ', n5, rp', S13.trans S', e7⟩
    | brk ρ' => cases e7; exact fun R' H' σ' rp' S' => q R' H' σ' rp' ((S1.same.trans S13).trans S')
    | ret d => cases e7; exact q
  · rintro σ2 H2 ⟨R2, ρ2, n2, rp2, S2, e2⟩
    rw [List.drop_length] at e2
    cases e2
    exact q R2 H2 σ2 rp2 (S1.same.trans S2)⟩
/-! changes of owned lists -/
def sApp (i : Nat) (t : Ed) : Bd := fun ρ => Mb (eVar i ρ) fun l => Mb (t ρ) fun d => match l with
  | .lst xs => if xs.length < sizeLine then Mp (.next (ρ.set i (some (.lst (xs ++ [d]))))) else Mo none
  | _ => Mo none
theorem Rp.ownL {R H : Hp} {σ : L2.St} {ρ : Sd} {n i : Nat} {ds : List D} (h : Rp Γ R H σ ρ n) (hi : i ∈ Γ.ow) (e : ρ[i]? = some (some (.lst ds))) : ∃ a xs, σ[i]? = some (some (.ref a)) ∧ H a = some (.lst xs) ∧ R a = none ∧ Γ.H0 a = none ∧ xs.length ≤ sizeLine ∧ FzA Γ.c R xs ds ∧ a ∉ Γ.W.dom := by
  obtain ⟨a, o, h1, h2, h3, h4, h5⟩ := h.own i _ hi e
  cases h5 with
  | lst z f => exact ⟨a, _, h1, h2, h3, h4, z, f, fun m => h.hp.d0 a m h4⟩
theorem ds_app {i : Nat} {o a : Expr} {ta : Ed} {apos cpos : Pos} (ho : PE X o (tVar i)) (ha : DE X Γ a ta) (hio' : Γ.ow.contains i = true := by rfl) (hbase : attributeBase o "append" X.env (eval o X.env) = eval o X.env := by rfl) (hline : (apos.endLine == cpos.line) = true := by rfl) (hs : starEach [a] X.env = (false, eval a X.env) :: starEach [] X.env := by rfl)
    (hfew : ((backTo cpos (starEach [a] X.env)).all (fun x => !x.1) && (backToKw cpos (keywordEach [] X.env)).all (fun x => x.1.isSome) && decide ([a].length + ([] : List Keyword).length + (if ([] : List Keyword).isEmpty then 0 else 1) < 30)) = true := by rfl) (hpl : (backTo cpos (starEach [] X.env)).any (·.1) = false := by rfl)
    (hsw : swapsWith (.Call (.Attribute o "append" apos) [a] [] cpos) none pos.line X.env = pure false := by rfl) : DS X Γ (.Expr (.Call (.Attribute o "append" apos) [a] [] cpos) pos) (sApp i ta) :=
  have hio := mem_of hio'
  ⟨PS.wk (ps_expr (pe_bm PySem.F.plainAttrs_list PySem.F.slot_list_append PySem.F.type_list_append mt_append ho (pa_cons ha.p pa_nil hs) hbase hfew hline hs hpl) hsw) fun E σ H ⟨R, ρ, n, fl, n', rp, e, q⟩ => by
    obtain ⟨l, m, e1, e⟩ := Mb_some e
    obtain ⟨d, m2, e2, e⟩ := Mb_some e
    obtain ⟨e1', rfl⟩ := eVar_some e1
    cases l with
    | lst xs =>
      by_cases hz : xs.length < sizeLine
      · have e' : some (Fl.next (ρ.set i (some (.lst (xs ++ [d])))), m2) = some (fl, n') := by
          rw [← e]; show _ = (if xs.length < sizeLine then Mp (Fl.next (ρ.set i (some (.lst (xs ++ [d]))))) else Mo none) m2
          rw [if_pos hz]; rfl
        cases e'
        obtain ⟨la, us, h1, h2, h3, h4, h5, f, hd⟩ := rp.ownL hio e1'
        refine ⟨_, h1, .inl ⟨rfl, _, SqL.of h2⟩, R, ρ, _, d, _, rp, e2, fun v R1 H1 rp1 g1 z1 => ?_⟩
        obtain ⟨h2', h3'⟩ := g1.stay h2 hd h3
        have f1 := f.mono g1.le
        refine ⟨la, us, v, rfl, rfl, h2', by rw [f.len]; exact hz, q R1 _ σ (rp1.mut hio e1' h1 (.lst ?_ (f1.app (.cons z1 .nil)))) g1.same⟩
        rw [List.length_append, f.len]; exact hz
      · have e' : (none : Option (Fl × Nat)) = some (fl, n') := by
          rw [← e]; show _ = (if xs.length < sizeLine then Mp (Fl.next (ρ.set i (some (.lst (xs ++ [d]))))) else Mo none) m2
          rw [if_neg hz]; rfl
        cases e'
    | _ => cases e⟩
def fExt : D → D → Option D
  | .lst xs, .lst ys => szl (xs.length + ys.length) (.lst (xs ++ ys))
  | .lst xs, .tup ys => szl (xs.length + ys.length) (.lst (xs ++ ys))
  | _, _ => none
def sExt (i : Nat) (t : Ed) : Bd := fun ρ => Mb (eVar i ρ) fun l => Mb (t ρ) fun d => Mb (Mo (fExt l d)) fun r => Mp (.next (ρ.set i (some r)))
theorem ds_ext {i : Nat} {o a : Expr} {ta : Ed} {apos cpos : Pos} (ho : PE X o (tVar i)) (ha : DE X Γ a ta) (hio' : Γ.ow.contains i = true := by rfl) (hbase : attributeBase o "extend" X.env (eval o X.env) = eval o X.env := by rfl) (hline : (apos.endLine == cpos.line) = true := by rfl) (hs : starEach [a] X.env = (false, eval a X.env) :: starEach [] X.env := by rfl)
    (hfew : ((backTo cpos (starEach [a] X.env)).all (fun x => !x.1) && (backToKw cpos (keywordEach [] X.env)).all (fun x => x.1.isSome) && decide ([a].length + ([] : List Keyword).length + (if ([] : List Keyword).isEmpty then 0 else 1) < 30)) = true := by rfl) (hpl : (backTo cpos (starEach [] X.env)).any (·.1) = false := by rfl)
    (hsw : swapsWith (.Call (.Attribute o "extend" apos) [a] [] cpos) none pos.line X.env = pure false := by rfl) (hK : X.K = Γ.c.K := by rfl) : DS X Γ (.Expr (.Call (.Attribute o "extend" apos) [a] [] cpos) pos) (sExt i ta) := by
  have hio := mem_of hio'
  have P1 := ps_expr (pos := pos) (pe_bm PySem.F.plainAttrs_list PySem.F.slot_list_extend PySem.F.type_list_extend mt_extend ho (pa_cons ha.p pa_nil hs) hbase hfew hline hs hpl) hsw
  have P2 := ps_expr (pos := pos) (pe_bm PySem.F.plainAttrs_list PySem.F.slot_list_extend PySem.F.type_list_extend mt_extT ho (pa_cons ha.p pa_nil hs) hbase hfew hline hs hpl) hsw
  refine ⟨⟨fun pins s σ H E I ⟨R, ρ, n, fl, n', rp, e, q⟩ => ?_⟩⟩
  obtain ⟨l, m, e1, w1⟩ := Mb_some e
  obtain ⟨d, m2, e2, w2⟩ := Mb_some w1
  obtain ⟨rr, m3, e3, w3⟩ := Mb_some w2
  obtain ⟨e1', rfl⟩ := eVar_some e1
  obtain ⟨e3', rfl⟩ := Mo_some e3
  cases w3
  cases l with
  | lst xs =>
    obtain ⟨la, us, h1, h2, h3, h4, h5, f, hd⟩ := rp.ownL hio e1'
    cases d with
    | lst ys =>
      obtain ⟨hz, rfl⟩ := szl_some e3'
      refine P1.run pins s σ H E I ⟨_, h1, .inl ⟨rfl, _, SqL.of h2⟩, R, ρ, _, _, _, rp, e2, fun v R1 H1 rp1 g1 z1 => ?_⟩
      obtain ⟨h2', h3'⟩ := g1.stay h2 hd h3
      have f1 := f.mono g1.le
      obtain ⟨b, vs, rfl, hb, lb, fb⟩ := z1.lst_inv
      have hz' : us.length + vs.length ≤ sizeLine := by rw [f.len, fb.len]; exact hz
      exact ⟨la, b, us, vs, rfl, rfl, h2', rp1.hp.same _ _ hb, hz', q R1 _ σ (rp1.mut hio e1' h1 (.lst (by rw [List.length_append]; exact hz') (f1.app fb))) g1.same⟩
    | tup ys =>
      obtain ⟨hz, rfl⟩ := szl_some e3'
      refine P2.run pins s σ H E I ⟨_, h1, .inl ⟨rfl, _, SqL.of h2⟩, R, ρ, _, _, _, rp, e2, fun v R1 H1 rp1 g1 z1 => ?_⟩
      obtain ⟨h2', h3'⟩ := g1.stay h2 hd h3
      have f1 := f.mono g1.le
      obtain ⟨b, vs, rfl, hb, lb, fb⟩ := z1.tup_inv
      have hz' : us.length + vs.length ≤ sizeLine := by rw [f.len, fb.len]; exact hz
      exact ⟨la, b, us, vs, rfl, rfl, h2', hK ▸ rp1.hp.same.le.sqT hb, hz', q R1 _ σ (rp1.mut hio e1' h1 (.lst (by rw [List.length_append]; exact hz') (f1.app fb))) g1.same⟩
    | _ => cases e3'
  | _ => cases e3'
/-- target = xs.pop() -/
def fPop : D → Option (D × D)
  | .lst xs => xs.getLast?.map fun d => (d, .lst xs.dropLast)
  | _ => none
def sPop (i : Nat) (g : Gd) : Bd := fun ρ => Mb (eVar i ρ) fun l => Mb (Mo (fPop l)) fun p => Mb (Mo (g p.1 (ρ.set i (some p.2)))) fun ρ' => Mp (.next ρ')
theorem ds_pop {i : Nat} {o tg : Expr} {vs : List Nat} {g : Gd} {apos cpos : Pos} (ho : PE X o (tVar i)) (hg : DG X Γ tg vs g) (hio' : Γ.ow.contains i = true := by rfl) (hbase : attributeBase o "pop" X.env (eval o X.env) = eval o X.env := by rfl) (hline : (apos.endLine == cpos.line) = true := by rfl)
    (hs : swapsWithSole [tg] (.Call (.Attribute o "pop" apos) [] [] cpos) pos.line X.env = pure false := by rfl) (hw : swappedStores [tg] (.Call (.Attribute o "pop" apos) [] [] cpos) X.env = pure none := by rfl)
    (h1 : (assignEach [tg] X.env).map (·.2) = [assign tg X.env] := by rfl) : DS X Γ (.Assign [tg] (.Call (.Attribute o "pop" apos) [] [] cpos) pos) (sPop i g) :=
  have hio := mem_of hio'
  ⟨PS.wk (ps_asg (pe_bm0 PySem.F.plainAttrs_list PySem.F.slot_list_pop PySem.F.type_list_pop mt_pop ho hbase hline) hg.p hs hw h1) fun E σ H ⟨R, ρ, n, fl, n', rp, e, q⟩ => by
    obtain ⟨l, m, e1, w1⟩ := Mb_some e
    obtain ⟨p, m2, e2, w2⟩ := Mb_some w1
    obtain ⟨ρ1, m3, e3, w3⟩ := Mb_some w2
    obtain ⟨e1', rfl⟩ := eVar_some e1
    obtain ⟨e2', rfl⟩ := Mo_some e2
    obtain ⟨e3', rfl⟩ := Mo_some e3
    cases w3
    cases l with
    | lst xs =>
      obtain ⟨d, ed, rfl⟩ := Option.map_eq_some_iff.mp e2'
      obtain ⟨la, us, h1, h2, h3, h4, h5, f, hd⟩ := rp.ownL hio e1'
      obtain ⟨ys, rfl⟩ : ∃ ys, xs = ys ++ [d] := List.getLast?_eq_some_iff.mp ed
      obtain ⟨us0, u, rfl, f0, z0⟩ := f.snoc_inv
      refine ⟨_, h1, .inl ⟨rfl, _, SqL.of h2⟩, la, us0 ++ [u], u, rfl, rfl, h2, by rw [List.length_append]; simp, ?_⟩
      rw [List.dropLast_concat]
      have e4 : (ys ++ [d]).dropLast = ys := List.dropLast_concat
      rw [e4] at e3'
      refine ⟨R, ρ.set i (some (.lst ys)), _, d, ρ1, rp.mut hio e1' h1 (.lst ?_ f0), z0, e3', fun σ' _ _ rp' => q R _ σ' rp' (Same.refl _)⟩
      rw [List.length_append] at h5
      omega
    | _ => cases e2'⟩
/-- name += e -/
def sAug (i : Nat) (f : D → D → Option D) (t : Ed) : Bd := fun ρ => Mb (eVar i ρ) fun x => Mb (t ρ) fun y => Mb (Mo (f x y)) fun z => Mp (.next (ρ.set i (some z)))
def fAddI : D → D → Option D
  | .int i, .int j => some (.int (i + j))
  | _, _ => none
theorem ds_augI {i : Nat} {x : Str} {e : Expr} {t : Ed} {pos' : Pos} (hN : X.N.Nodup) (hi : X.N[i]? = some x) (hx : Loc X.env.scope x) (h : DE X Γ e t) (hio' : Γ.ow.contains i = false := by rfl) (hf : X.fn x = true ∨ X.env.scope.names.lookup x = some .local := by first | exact .inl rfl | exact .inr rfl) :
    DS X Γ (.AugAssign (.Name x pos') .Add e pos) (sAug i fAddI t) := have hio := nmem_of hio'; ⟨PS.wk (ps_aug hN hi hx h.p ip_add hf) fun E σ H ⟨R, ρ, n, fl, n', rp, e, q⟩ => by
  obtain ⟨l, m, e1, w1⟩ := Mb_some e
  obtain ⟨d, m2, e2, w2⟩ := Mb_some w1
  obtain ⟨rr, m3, e3, w3⟩ := Mb_some w2
  obtain ⟨e1', rfl⟩ := eVar_some e1
  obtain ⟨e3', rfl⟩ := Mo_some e3
  cases w3
  obtain ⟨v, h1, h2⟩ := rp.fz i l hio e1'
  refine ⟨v, h1, R, ρ, _, d, _, rp, e2, fun u R1 H1 rp1 g1 z1 => ?_⟩
  cases h2 with
  | int i1 => cases z1 with
    | int j1 => cases e3'; exact ⟨i1, j1, rfl, rfl, q R1 H1 _ (rp1.set hio (.int _)) g1.same⟩
    | _ => cases e3'
  | _ => cases e3'⟩
end
/-! a def -/
def fnS (k : Nat) (t : Bd) (ds : List D) : M D := fun n => match t (ds.map some ++ List.replicate (k - ds.length) none) n with
  | some (.ret d, n') => some (d, n')
  | some (.next _, n') => some (.non, n')
  | _ => none
def fnA (a k : Nat) (t : Bd) (ds : List D) : M D := fun n => if ds.length = a then fnS k t ds n else none
theorem rp_start {c : Cn} {W : Wd} {ow : List Nat} {H R : Hp} {n : Nat} {N : List Str} {vs : List V} {ds : List D} (hl : ∀ i ∈ ow, vs.length ≤ i) (f : FzA c R vs ds) (h : HpOk ⟨c, W, [], H, R⟩ R H n) : Rp ⟨c, W, ow, H, R⟩ R H (L2.start N vs) (ds.map some ++ List.replicate (N.length - ds.length) none) n := by
  have e0 : ∀ i d, (ds.map some ++ List.replicate (N.length - ds.length) (none : Option D))[i]? = some (some d) → ds[i]? = some d := fun i d e => by
    by_cases hi : i < ds.length
    · rw [List.getElem?_append_left (by rw [List.length_map]; exact hi), List.getElem?_map, List.getElem?_eq_getElem hi] at e
      rw [List.getElem?_eq_getElem hi]
      simpa using e
    · rw [List.getElem?_append_right (by rw [List.length_map]; omega), List.getElem?_replicate] at e
      split at e <;> cases e
  refine ⟨?_, fun i d _ e => ?_, fun i d hi e => ?_, fun i j a d1 d2 hi hj e1 => ?_, ⟨h.same, h.dj, h.d0, h.wd, h.keep, h.r0, h.new⟩⟩
  · unfold L2.start
    rw [List.length_append, List.length_append, List.length_map, List.length_map, List.length_replicate, List.length_replicate, f.len]
  · obtain ⟨v, h1, h2⟩ := f.get (e0 i d e)
    refine ⟨v, ?_, h2⟩
    have hi : i < vs.length := (List.getElem?_eq_some_iff.mp h1).1
    unfold L2.start
    rw [List.getElem?_append_left (by rw [List.length_map]; exact hi), List.getElem?_map, h1]
    rfl
  · have h1 := (List.getElem?_eq_some_iff.mp (e0 i d e)).1
    have h2 := hl i hi
    rw [f.len] at h2
    omega
  · have h1 := (List.getElem?_eq_some_iff.mp (e0 i d1 e1)).1
    have h2 := hl i hi
    rw [f.len] at h2
    omega
/-- a def's promise by its body -/
theorem fn_ok {P : Program} {w : World} {K : PySem.W.Frag} {mg : Str → Option Value} {base : Heap} {x qual : Str} {params : Arguments} {body : List Stmt} {scope : Scope} {dvs : List V} {kws : List (Str × V)} {fa : Addr} {fd : FuncData} {N ps : List Str} {k : Nat} {c : Cn} {W : Wd} {t : Bd} (ow : List Nat)
    (F : FunD K x qual params body scope dvs kws fa fd) (S : FnScope N ps scope) (how : ow.all (fun i => ps.length ≤ i) = true)
    (hb : ∀ (cdv : Value) (A : Around) (outer : List Env) (s : Shared) (H : Hp) (E : XK) (R : Hp), Room k (A.deeper (PyProof.Rows.envOfC qual scope s.heap.objs.size fa cdv)) → DB (cxOf CX0 P w K mg base N qual scope fa cdv A outer s H E).nox ⟨c, W, ow, H, R⟩ body t) :
    FnOk P w K mg base CX0 (k + 1) fa fd ps (spM c W (fnA ps.length N.length t)) := by
  refine F.ok S (fun vs H Q E h => ?_) (fun cdv A outer s H vs Q E hr h => ?_)
  · obtain ⟨R, ds, r, n, n', f, _, e, _⟩ := h
    rw [f.len]; exact (ite_some e).1
  · obtain ⟨R, ds, r, n, n', f, hp, e, q⟩ := h
    obtain ⟨hl, e⟩ := ite_some e
    · refine ⟨_, PSs.nox (hb cdv A outer s H E R hr).p, ?_⟩
      unfold fnS at e
      have rp := rp_start (c := c) (W := W) (ow := ow) (N := N) (fun i hi => by
        have := List.all_eq_true.mp how i hi
        rw [f.len, hl]; exact of_decide_eq_true this) f hp
      cases e1 : t (ds.map some ++ List.replicate (N.length - ds.length) none) n with
      | none => rw [e1] at e; cases e
      | some p =>
        obtain ⟨fl, m⟩ := p
        rw [e1] at e
        refine ⟨R, _, n, fl, m, rp, e1, ?_⟩
        cases fl with
        | ret d => cases e; exact fun v R' H' k z => q v R' H' ⟨k.same, k.dj, k.d0, k.wd, k.keep, k.r0, k.new⟩ z
        | next ρ => cases e; exact fun R' H' σ' rp' S' => q .non R' H' ⟨rp'.hp.same, rp'.hp.dj, rp'.hp.d0, rp'.hp.wd, rp'.hp.keep, rp'.hp.r0, rp'.hp.new⟩ .non
        | brk ρ => cases e
        | cont ρ => cases e
end Sh

set_option Elab.async false
set_option linter.all false
set_option maxRecDepth 100000
namespace Sh
open PySem L2 Nf
/-- a module's constant -/
def GlobD (K : PySem.W.Frag) (mg : Str → Option Value) (x : Str) (d : D) : Prop := ∃ v u, mg x = some u ∧ RelV v u ∧ ∀ dk R, Fz ⟨K, dk⟩ R v d
theorem d_glob {X : Cx} {Γ : Gm} {x : Str} {d : D} {pos : Pos} (hg : Gl X x) (h : GlobD X.K X.mg x d) (hK : X.K = Γ.c.K := by rfl) (hd : (x == ("__debug__" : Str)) = false := by decide) : DE X Γ (.Name x pos) (eC d) := by
  obtain ⟨v, u, hm, r, hv⟩ := h
  refine d_c (pe_glob hg hm r hd) fun R => ?_
  have := hv Γ.c.dk R
  rw [hK] at this
  exact this
end Sh

set_option Elab.async false
set_option linter.all false
set_option maxRecDepth 100000
namespace Nf
open PySem PySem.Spec PyProof.Rows L2 He
/-! ### the head's facts with one more test of the written part -/
abbrev AlB : Type := AlD × Bool
def obsB (n : Nat) (fa : List Fa) (fn : List DefD) (ex : PySem.W.Frag → Bool) (g : Addr → Option Obj) : AlB := (obsD fa fn (frG g (asD g n)), ex (frG g (asD g n)))
def hookB (n : Nat) (fa : List Fa) (fn : List DefD) (ex : PySem.W.Frag → Bool) : PySem.W.Hook where
  α := AlB
  obs := fun s => obsB n fa fn ex s.heap.get?
  val := fun _ => (valD fn, true)
  says := fun _ h => ∃ K : PySem.W.Frag, K.In h ∧ (SaysD fa fn K ∧ ex K = true)
  of := fun _ _ e => ⟨_, frG_in, congrArg Prod.fst e, congrArg Prod.snd e⟩
  keeps := fun _ _ _ y k => (let ⟨K, hK, c⟩ := y; ⟨K, PySem.W.Frag.In.keeps hK k, c⟩)
theorem obsB_eq {n : Nat} {fa : List Fa} {fn : List DefD} {ex : PySem.W.Frag → Bool} {g : Addr → Option Obj} {s : Shared} (h : ∀ a, g a = s.heap.get? a) : obsB n fa fn ex g = (hookB n fa fn ex).obs s := by
  have e : g = s.heap.get? := funext h
  subst e
  rfl
end Nf

set_option Elab.async false
set_option linter.all false
set_option maxRecDepth 100000
/-! a module's constants, looked up in the written part -/
namespace Sh
open PySem L2 Nf
mutual
def kVg (K : PySem.W.Frag) : D → Value → Bool
  | .non, .none => true
  | .bl b, .bool c => decide (b = c)
  | .int i, .int j _ => decide (i = j)
  | .str x, .str y _ => decide (x = y) && decide (x.length ≤ sizeLine)
  | .tup ds, .ref a => match K.lookup a with
    | some ⟨.type c, _, .seq its _, _⟩ => decide (c = "tuple") && (decide (its.size ≤ sizeLine) && kA K ds its.toList)
    | _ => false
  | _, _ => false
def kA (K : PySem.W.Frag) : List D → List Value → Bool
  | [], [] => true
  | d :: ds, u :: us => kVg K d u && kA K ds us
  | _, _ => false
end
mutual
theorem kV_ok {K : PySem.W.Frag} : ∀ {d : D} {u : Value}, kVg K d u = true → ∃ v, RelV v u ∧ ∀ dk R, Fz ⟨K, dk⟩ R v d
  | .non, u, h => by
    cases u with
    | none => exact ⟨.non, rfl, fun _ _ => .non⟩
    | _ => simp [kVg] at h
  | .bl b, u, h => by
    cases u with
    | bool c =>
      simp only [kVg] at h
      have := of_decide_eq_true h; subst this
      exact ⟨.bl b, rfl, fun _ _ => .bl b⟩
    | _ => simp [kVg] at h
  | .int i, u, h => by
    cases u with
    | int j t =>
      simp only [kVg] at h
      have := of_decide_eq_true h; subst this
      exact ⟨.int i, ⟨t, rfl⟩, fun _ _ => .int i⟩
    | _ => simp [kVg] at h
  | .str x, u, h => by
    cases u with
    | str y t =>
      simp only [kVg] at h
      obtain ⟨h1, h2⟩ := Bool.and_eq_true_iff.mp h
      have := of_decide_eq_true h1; subst this
      exact ⟨.str x, ⟨t, rfl⟩, fun _ _ => .str x (of_decide_eq_true h2)⟩
    | _ => simp [kVg] at h
  | .tup ds, u, h => by
    cases u with
    | ref a =>
      simp only [kVg] at h
      cases q : K.lookup a with
      | none => rw [q] at h; cases h
      | some o =>
        obtain ⟨oc, od, dt, osl⟩ := o
        rw [q] at h
        cases oc with
        | type c =>
          cases dt with
          | seq its n =>
            obtain ⟨h1, h2⟩ := Bool.and_eq_true_iff.mp (show (decide (c = "tuple") && (decide (its.size ≤ sizeLine) && kA K ds its.toList)) = true from h)
            obtain ⟨h3, h4⟩ := Bool.and_eq_true_iff.mp h2
            obtain ⟨vs, r, f⟩ := kA_ok h4
            refine ⟨.ref a, rfl, fun dk R => .tup (.inr ⟨_, its, n, q, congrArg Value.type (of_decide_eq_true h1), rfl, of_decide_eq_true h3, r⟩) ?_ (f dk R)⟩
            rw [r.length, Array.length_toList]
            exact of_decide_eq_true h3
          | _ => cases h
        | _ => cases dt <;> cases h
    | _ => simp [kVg] at h
  | .lst _, u, h => by cases u <;> simp [kVg] at h
  | .dk _ _, u, h => by cases u <;> simp [kVg] at h
  | .ins _ _ _, u, h => by cases u <;> simp [kVg] at h
  | .deck, u, h => by cases u <;> simp [kVg] at h
theorem kA_ok {K : PySem.W.Frag} : ∀ {ds : List D} {us : List Value}, kA K ds us = true → ∃ vs, Vals vs us ∧ ∀ dk R, FzA ⟨K, dk⟩ R vs ds
  | [], [], _ => ⟨[], .nil, fun _ _ => .nil⟩
  | [], _ :: _, h => by simp [kA] at h
  | _ :: _, [], h => by simp [kA] at h
  | d :: ds, u :: us, h => by
    simp only [kA] at h
    obtain ⟨h1, h2⟩ := Bool.and_eq_true_iff.mp h
    obtain ⟨v, r, f⟩ := kV_ok h1
    obtain ⟨vs, rs, fs⟩ := kA_ok h2
    exact ⟨v :: vs, .cons r rs, fun dk R => .cons (f dk R) (fs dk R)⟩
end
def gB (K : PySem.W.Frag) (x : Str) (d : D) : Bool := match PySem.W.nsIn K mainGlobals x with
  | some (some u) => kVg K d u
  | _ => false
theorem gB_ok {K : PySem.W.Frag} {h : Heap} {mg : Str → Option Value} {x : Str} {d : D} (X : K.In h) (G : h.Ns mainGlobals mg) (c : gB K x d = true) : GlobD K mg x d := by
  unfold gB at c
  cases e : PySem.W.nsIn K mainGlobals x with
  | none => rw [e] at c; cases c
  | some o =>
    rw [e] at c
    cases o with
    | none => cases c
    | some u =>
      obtain ⟨v, r, f⟩ := kV_ok c
      exact ⟨v, u, PySem.W.mg_of X G e, r, f⟩
end Sh

set_option Elab.async false
set_option linter.all false
set_option maxRecDepth 100000
/-! going through functions over data -/
namespace Sh
open PySem L2 Nf
section
variable {ρ ρ' : Sd} {n m m' : Nat} {t u : Bd} {d x y z : D} {a b c : Ed} {r : Option (Fl × Nat)}
theorem fn_ret {k j : Nat} {ds : List D} (hl : ds.length = k) (h : t (ds.map some ++ List.replicate (j - ds.length) none) n = some (.ret d, m)) : fnA k j t ds n = some (d, m) := by
  unfold fnA fnS; rw [if_pos hl, h]
theorem fn_none {k j : Nat} {ds : List D} (hl : ds.length = k) (h : t (ds.map some ++ List.replicate (j - ds.length) none) n = some (.next ρ, m)) : fnA k j t ds n = some (.non, m) := by
  unfold fnA fnS; rw [if_pos hl, h]
theorem bSeq_n (h : t ρ n = some (.next ρ', m)) : bSeq t u ρ n = u ρ' m := by unfold bSeq Mb; rw [h]
theorem bSeq_r (h : t ρ n = some (.ret d, m)) : bSeq t u ρ n = some (.ret d, m) := by unfold bSeq Mb; rw [h]; rfl
theorem bSeq_c (h : t ρ n = some (.cont ρ', m)) : bSeq t u ρ n = some (.cont ρ', m) := by unfold bSeq Mb; rw [h]; rfl
theorem sSet_n {i : Nat} (h : a ρ n = some (d, m)) : sSet i a ρ n = some (.next (ρ.set i (some d)), m) := by unfold sSet Mb; rw [h]; rfl
theorem sRet_r (h : a ρ n = some (d, m)) : sRet a ρ n = some (.ret d, m) := by unfold sRet Mb; rw [h]; rfl
theorem sIf_t {c : Td} (h : c ρ n = some (true, m)) : sIf c t u ρ n = t ρ m := by unfold sIf Mb; rw [h]; rfl
theorem sIf_f {c : Td} (h : c ρ n = some (false, m)) : sIf c t u ρ n = u ρ m := by unfold sIf Mb; rw [h]; rfl
theorem sFor_i {ti : Id'} {g : Gd} {ds : List D} (h : ti ρ n = some (ds, m)) : sFor ti g t ρ n = fM g t ds ρ m := by unfold sFor Mb; rw [h]
theorem fM_nil {g : Gd} : fM g t [] ρ n = some (.next ρ, n) := rfl
theorem fM_next {g : Gd} {ds : List D} {ρ1 : Sd} (h : g d ρ = some ρ1) (k : t ρ1 n = some (.next ρ', m)) : fM g t (d :: ds) ρ n = fM g t ds ρ' m := by
  simp only [fM, Mb, h, Mo, Option.map_some, k]
theorem fM_cont {g : Gd} {ds : List D} {ρ1 : Sd} (h : g d ρ = some ρ1) (k : t ρ1 n = some (.cont ρ', m)) : fM g t (d :: ds) ρ n = fM g t ds ρ' m := by
  simp only [fM, Mb, h, Mo, Option.map_some, k]
theorem fM_ret {g : Gd} {ds : List D} {ρ1 : Sd} {e : D} (h : g d ρ = some ρ1) (k : t ρ1 n = some (.ret e, m)) : fM g t (d :: ds) ρ n = some (.ret e, m) := by
  simp only [fM, Mb, h, Mo, Option.map_some, k]; rfl
theorem e1_e {f : D → Option D} (h : a ρ n = some (x, m)) (k : f x = some y) : e1 f a ρ n = some (y, m) := by unfold e1 Mb; rw [h]; simp only [Mo, k, Option.map_some]
theorem e2_e {f : D → D → Option D} (h : a ρ n = some (x, m)) (h2 : b ρ m = some (y, m')) (k : f x y = some z) : e2 f a b ρ n = some (z, m') := by
  unfold e2 Mb; rw [h]; simp only [h2]; simp only [Mo, k, Option.map_some]
theorem trB_e {b : Bool} (h : a ρ n = some (x, m)) (k : fTr x = some b) : trB a ρ n = some (b, m) := by unfold trB Mb; rw [h]; simp only [Mo, k, Option.map_some]
theorem tNt_e {c : Td} {b : Bool} (h : c ρ n = some (b, m)) : tNt c ρ n = some (!b, m) := by unfold tNt Mb; rw [h]; rfl
theorem tAn_f {c e : Td} (h : c ρ n = some (false, m)) : tAn c e ρ n = some (false, m) := by unfold tAn Mb; rw [h]; rfl
theorem tAn_t {c e : Td} (h : c ρ n = some (true, m)) : tAn c e ρ n = e ρ m := by unfold tAn Mb; rw [h]; rfl
theorem tOr_f {c e : Td} (h : c ρ n = some (false, m)) : tOr' c e ρ n = e ρ m := by unfold tOr' Mb; rw [h]; rfl
theorem tOr_t {c e : Td} (h : c ρ n = some (true, m)) : tOr' c e ρ n = some (true, m) := by unfold tOr' Mb; rw [h]; rfl
theorem aCons_e {t : Ad} {ds : List D} (h : a ρ n = some (d, m)) (k : t ρ m = some (ds, m')) : aCons a t ρ n = some (d :: ds, m') := by
  unfold aCons Mb; rw [h]; simp only [k]; rfl
theorem aNil_e : aNil ρ n = some ([], n) := rfl
theorem eCall_e {f : List D → M D} {t : Ad} {ds : List D} (h : t ρ n = some (ds, m)) (k : f ds m = some (d, m')) : eCall f t ρ n = some (d, m') := by unfold eCall Mb; rw [h]; exact k
theorem eTup_e {t : Ad} {ds : List D} (h : t ρ n = some (ds, m)) : eTup t ρ n = some (.tup ds, m) := by unfold eTup Mb; rw [h]; rfl
theorem eLst_e {t : Ad} {ds : List D} (h : t ρ n = some (ds, m)) : eLst t ρ n = some (.lst ds, m) := by unfold eLst Mb; rw [h]; rfl
theorem eF_e {f : List D → Option D} {t : Ad} {ds : List D} (h : t ρ n = some (ds, m)) (k : f ds = some d) : eF f t ρ n = some (d, m) := by unfold eF Mb; rw [h]; simp only [Mo, k, Option.map_some]
theorem iSeq_e {ds : List D} (h : a ρ n = some (x, m)) (k : fItems x = some ds) : iSeq a ρ n = some (ds, m) := by unfold iSeq Mb; rw [h]; simp only [Mo, k, Option.map_some]
theorem i1_e {f : D → Option (List D)} {ds : List D} (h : a ρ n = some (x, m)) (k : f x = some ds) : i1 f a ρ n = some (ds, m) := by unfold i1 Mb; rw [h]; simp only [Mo, k, Option.map_some]
theorem i2_e {f : D → D → Option (List D)} {ds : List D} (h : a ρ n = some (x, m)) (h2 : b ρ m = some (y, m')) (k : f x y = some ds) : i2 f a b ρ n = some (ds, m') := by
  unfold i2 Mb; rw [h]; simp only [h2]; simp only [Mo, k, Option.map_some]
theorem eLc_e {ti : Id'} {g : Gd} {tt : Td} {te : Ed} {vs : List Nat} {ds rs : List D} (h : ti ρ n = some (ds, m)) (k : lcM g tt te (wipeD ρ vs) ds m = some (rs, m')) : eLc ti g tt te vs ρ n = some (.lst rs, m') := by
  unfold eLc Mb; rw [h]; simp only [k]; rfl
theorem lcM_cons {g : Gd} {te : Ed} {ds rs : List D} {ρ1 : Sd} (h : g d ρ = some ρ1) (k : te ρ1 n = some (y, m)) (j : lcM g tY te ρ ds m = some (rs, m')) : lcM g tY te ρ (d :: ds) n = some (y :: rs, m') := by
  simp only [lcM, Mb, h, Mo, Option.map_some, tY, Mp, k, if_true, j]
theorem sAsg_n {g : Gd} (h : a ρ n = some (d, m)) (k : g d ρ = some ρ') : sAsg a g ρ n = some (.next ρ', m) := by unfold sAsg Mb; rw [h]; simp only [Mo, k, Option.map_some]; rfl
/-- a comprehension whose elements are pure -/
theorem lcM_map {α : Type} {g : Gd} {te : Ed} {f : α → D} {h : α → D} {n : Nat} : ∀ (xs : List α), (∀ x ∈ xs, ∃ ρ1, g (f x) ρ = some ρ1 ∧ te ρ1 n = some (h x, n)) → lcM g tY te ρ (xs.map f) n = some (xs.map h, n)
  | [], _ => rfl
  | x :: r, q => by
    obtain ⟨ρ1, h1, h2⟩ := q x (by simp)
    exact lcM_cons h1 h2 (lcM_map r fun y hy => q y (by simp [hy]))
theorem items_tup {ds : List D} (h : ds.length ≤ 1000000) : fItems (.tup ds) = some ds := by
  show szl ds.length ds = _; unfold szl; rw [if_pos (by rw [PySem.sizeLine_eq]; omega)]
theorem items_lst {ds : List D} (h : ds.length ≤ 1000000) : fItems (.lst ds) = some ds := by
  show szl ds.length ds = _; unfold szl; rw [if_pos (by rw [PySem.sizeLine_eq]; omega)]
theorem eq_str {x y : Str} : fEq (.str x) (.str y) = some (.bl (decide (x = y))) := rfl
theorem ne_str {x y : Str} : fNe (.str x) (.str y) = some (.bl (!decide (x = y))) := rfl
theorem eq_int {x y : Int} : fEq (.int x) (.int y) = some (.bl (decide (x = y))) := rfl
end
section
variable {ρ ρ' : Sd} {n m m' f i : Nat} {t : Bd} {d x y z : D} {a : Ed} {c : Td} {g : Gd} {xs ys : List D}
theorem wM_t (h : c ρ n = some (true, m)) (k : t ρ m = some (.next ρ', m')) : wM c t (f + 1) ρ n = wM c t f ρ' m' := by
  simp only [wM, Mb, h, if_true, k]
theorem wM_c (h : c ρ n = some (true, m)) (k : t ρ m = some (.cont ρ', m')) : wM c t (f + 1) ρ n = wM c t f ρ' m' := by
  simp only [wM, Mb, h, if_true, k]
theorem wM_r (h : c ρ n = some (true, m)) (k : t ρ m = some (.ret d, m')) : wM c t (f + 1) ρ n = some (.ret d, m') := by
  simp only [wM, Mb, h, if_true, k]; rfl
theorem wM_f (h : c ρ n = some (false, m)) : wM c t (f + 1) ρ n = some (.next ρ, m) := by
  simp only [wM, Mb, h, Bool.false_eq_true, if_false]; rfl
theorem eVar_e (h : ρ[i]? = some (some d)) : eVar i ρ n = some (d, n) := by unfold eVar; rw [h]
theorem sPop_n (h : ρ[i]? = some (some (.lst (xs ++ [d])))) (k : g d (ρ.set i (some (.lst xs))) = some ρ') : sPop i g ρ n = some (.next ρ', n) := by
  have e : fPop (.lst (xs ++ [d])) = some (d, .lst xs) := by
    show ((xs ++ [d]).getLast?).map _ = _
    rw [List.getLast?_concat, Option.map_some, List.dropLast_concat]
  unfold sPop Mb
  rw [eVar_e h]
  simp only [Mo, e, Option.map_some, k]
  rfl
theorem sExt_l (h : ρ[i]? = some (some (.lst xs))) (ha : a ρ n = some (.lst ys, m)) (hz : xs.length + ys.length ≤ 1000000) : sExt i a ρ n = some (.next (ρ.set i (some (.lst (xs ++ ys)))), m) := by
  have e : fExt (.lst xs) (.lst ys) = some (.lst (xs ++ ys)) := by
    show szl _ _ = _; unfold szl; rw [if_pos (by rw [PySem.sizeLine_eq]; omega)]
  unfold sExt Mb
  rw [eVar_e h]
  simp only [ha, Mo, e, Option.map_some]
  rfl
theorem sExt_t (h : ρ[i]? = some (some (.lst xs))) (ha : a ρ n = some (.tup ys, m)) (hz : xs.length + ys.length ≤ 1000000) : sExt i a ρ n = some (.next (ρ.set i (some (.lst (xs ++ ys)))), m) := by
  have e : fExt (.lst xs) (.tup ys) = some (.lst (xs ++ ys)) := by
    show szl _ _ = _; unfold szl; rw [if_pos (by rw [PySem.sizeLine_eq]; omega)]
  unfold sExt Mb
  rw [eVar_e h]
  simp only [ha, Mo, e, Option.map_some]
  rfl
theorem sApp_n (h : ρ[i]? = some (some (.lst xs))) (ha : a ρ n = some (d, m)) (hz : xs.length < 1000000) : sApp i a ρ n = some (.next (ρ.set i (some (.lst (xs ++ [d])))), m) := by
  unfold sApp Mb
  rw [eVar_e h]
  simp only [ha]
  rw [if_pos (by rw [PySem.sizeLine_eq]; omega)]
  rfl
theorem sAug_n {j k : Int} (h : ρ[i]? = some (some (.int j))) (ha : a ρ n = some (.int k, m)) : sAug i fAddI a ρ n = some (.next (ρ.set i (some (.int (j + k)))), m) := by
  unfold sAug Mb
  rw [eVar_e h]
  simp only [ha, Mo, fAddI, Option.map_some]
  rfl
theorem add_lst (h : xs.length + ys.length ≤ 1000000) : fAdd (.lst xs) (.lst ys) = some (.lst (xs ++ ys)) := by
  show szl _ _ = _; unfold szl; rw [if_pos (by rw [PySem.sizeLine_eq]; omega)]
theorem add_tup (h : xs.length + ys.length ≤ 1000000) : fAdd (.tup xs) (.tup ys) = some (.tup (xs ++ ys)) := by
  show szl _ _ = _; unfold szl; rw [if_pos (by rw [PySem.sizeLine_eq]; omega)]
theorem add_str {x y : Str} (h : x.length + y.length ≤ 1000000) : fAdd (.str x) (.str y) = some (.str (x ++ y)) := by
  show szl _ _ = _; unfold szl; rw [if_pos (by rw [PySem.sizeLine_eq]; omega)]
theorem zip_tup (h : xs.length ≤ 1000000) : fZip (.tup xs) (.tup ys) = some (prs xs ys) := by
  show szl _ _ = _; unfold szl; rw [if_pos (by rw [PySem.sizeLine_eq]; omega)]
theorem mod_i {i j : Int} (h : 0 < j) : fMod (.int i) (.int j) = some (.int (i % j)) := if_pos h
theorem div_i {i j : Int} (h : 0 < j ∧ j < 1073741824) : fDiv (.int i) (.int j) = some (.int (i / j)) := if_pos h
theorem vAn_t {b : Ed} (h : a ρ n = some (x, m)) (k : fTr x = some true) : vAn a b ρ n = b ρ m := by unfold vAn Mb; rw [h]; simp only [Mo, k, Option.map_some, if_true]
theorem vAn_f {b : Ed} (h : a ρ n = some (x, m)) (k : fTr x = some false) : vAn a b ρ n = some (x, m) := by unfold vAn Mb; rw [h]; simp only [Mo, k, Option.map_some, Bool.false_eq_true, if_false]; rfl
theorem vOr_f {b : Ed} (h : a ρ n = some (x, m)) (k : fTr x = some false) : vOr a b ρ n = b ρ m := by unfold vOr Mb; rw [h]; simp only [Mo, k, Option.map_some, Bool.false_eq_true, if_false]
theorem vOr_t {b : Ed} (h : a ρ n = some (x, m)) (k : fTr x = some true) : vOr a b ρ n = some (x, m) := by unfold vOr Mb; rw [h]; simp only [Mo, k, Option.map_some, if_true]; rfl
theorem vIf_t {c : Td} {b : Ed} (h : c ρ n = some (true, m)) : vIf c a b ρ n = a ρ m := by unfold vIf Mb; rw [h]; rfl
theorem vIf_f {c : Td} {b : Ed} (h : c ρ n = some (false, m)) : vIf c a b ρ n = b ρ m := by unfold vIf Mb; rw [h]; rfl
theorem tEq_t {b : Ed} {x y : Str} (h : a ρ n = some (.str x, m)) (k : b ρ m = some (.str y, m)) (e : x = y := by rfl) : trB (e2 fEq a b) ρ n = some (true, m) := trB_e (e2_e h k eq_str) (by show some (decide (x = y)) = _; rw [decide_eq_true e])
theorem tEq_f {b : Ed} {x y : Str} (h : a ρ n = some (.str x, m)) (k : b ρ m = some (.str y, m)) (e : ¬ x = y := by decide +kernel) : trB (e2 fEq a b) ρ n = some (false, m) := trB_e (e2_e h k eq_str) (by show some (decide (x = y)) = _; rw [decide_eq_false e])
theorem tNe_f {b : Ed} {x y : Str} (h : a ρ n = some (.str x, m)) (k : b ρ m = some (.str y, m)) (e : x = y := by rfl) : trB (e2 fNe a b) ρ n = some (false, m) := trB_e (e2_e h k ne_str) (by show some (!decide (x = y)) = _; rw [decide_eq_true e]; rfl)
theorem tNe_t {b : Ed} {x y : Str} (h : a ρ n = some (.str x, m)) (k : b ρ m = some (.str y, m)) (e : ¬ x = y := by decide +kernel) : trB (e2 fNe a b) ρ n = some (true, m) := trB_e (e2_e h k ne_str) (by show some (!decide (x = y)) = _; rw [decide_eq_false e]; rfl)
theorem tEqI_t {b : Ed} {x y : Int} (h : a ρ n = some (.int x, m)) (k : b ρ m = some (.int y, m)) (e : x = y) : trB (e2 fEq a b) ρ n = some (true, m) := trB_e (e2_e h k eq_int) (by show some (decide (x = y)) = _; rw [decide_eq_true e])
theorem tEqI_f {b : Ed} {x y : Int} (h : a ρ n = some (.int x, m)) (k : b ρ m = some (.int y, m)) (e : ¬ x = y) : trB (e2 fEq a b) ρ n = some (false, m) := trB_e (e2_e h k eq_int) (by show some (decide (x = y)) = _; rw [decide_eq_false e])
theorem eFl_e (h : a ρ n = some (d, m)) (k : d.flat = true) : eFl a ρ n = some (d, m) := by
  unfold eFl Mb
  rw [h]
  simp only [k, if_true]
  rfl
end
/-- a loop that goes to its end, by an invariant -/
theorem fM_inv {g : Gd} {b : Bd} (I : Nat → Sd → Nat → Prop) : ∀ (ds : List D) (i : Nat) (ρ : Sd) (n : Nat), I i ρ n → (∀ j d ρ n, ds[j]? = some d → I (i + j) ρ n → ∃ ρ1 ρ' n', g d ρ = some ρ1 ∧ b ρ1 n = some (.next ρ', n') ∧ I (i + j + 1) ρ' n') → ∃ ρ' n', fM g b ds ρ n = some (.next ρ', n') ∧ I (i + ds.length) ρ' n'
  | [], i, ρ, n, h, _ => ⟨ρ, n, rfl, h⟩
  | d :: r, i, ρ, n, h, hs => by
    obtain ⟨ρ1, ρ', n', h1, h2, h3⟩ := hs 0 d ρ n rfl h
    obtain ⟨ρ2, n2, h4, h5⟩ := fM_inv I r (i + 1) ρ' n' h3 fun j d ρ n hj hI => by
      have := hs (j + 1) d ρ n (by simpa using hj) (by rw [show i + (j + 1) = i + 1 + j by omega]; exact hI)
      rw [show i + (j + 1) + 1 = i + 1 + j + 1 by omega] at this
      exact this
    exact ⟨ρ2, n2, by rw [fM_next h1 h2]; exact h4, by rw [List.length_cons, show i + (r.length + 1) = i + 1 + r.length by omega]; exact h5⟩
/-- a comprehension with draws: each element by P -/
theorem lcM_inv {g : Gd} {te : Ed} {ρ : Sd} {α : Type} {f : α → D} {c : Nat} (P : D → Prop) : ∀ (xs : List α) (n : Nat), n + xs.length * c ≤ 2 ^ 40 → (∀ x ∈ xs, ∃ ρ1, g (f x) ρ = some ρ1 ∧ ∀ n, n + c ≤ 2 ^ 40 → ∃ y m, te ρ1 n = some (y, m) ∧ m ≤ n + c ∧ P y) →
    ∃ ys m, lcM g tY te ρ (xs.map f) n = some (ys, m) ∧ m ≤ n + xs.length * c ∧ ys.length = xs.length ∧ ∀ y ∈ ys, P y
  | [], n, _, _ => ⟨[], n, rfl, by simp, rfl, by simp⟩
  | x :: r, n, hn, h => by
    rw [List.length_cons, Nat.succ_mul] at hn
    obtain ⟨ρ1, h1, h2⟩ := h x (by simp)
    obtain ⟨y, m, h3, h4, h5⟩ := h2 n (by omega)
    obtain ⟨ys, m', h6, h7, h8, h9⟩ := lcM_inv P r m (by omega) fun z hz => h z (by simp [hz])
    refine ⟨y :: ys, m', lcM_cons h1 h3 h6, by rw [List.length_cons, Nat.succ_mul]; omega, by simp [h8], fun z hz => ?_⟩
    rcases List.mem_cons.mp hz with rfl | hz
    · exact h5
    · exact h9 z hz
/-! drawing: what a piece gives, within so many draws -/
def Dr {α : Type} (x : M α) (c : Nat) (Q : α → Prop) : Prop := ∀ n, n + c ≤ 2 ^ 40 → ∃ a m, x n = some (a, m) ∧ m ≤ n + c ∧ Q a
theorem Dr.bind {α β : Type} {x : M α} {f : α → M β} {c e : Nat} {Q : α → Prop} {R : β → Prop} (h : Dr x c Q) (k : ∀ a, Q a → Dr (f a) e R) : Dr (Mb x f) (c + e) R := fun n hn => by
  obtain ⟨a, m, h1, h2, h3⟩ := h n (by omega)
  obtain ⟨b, m', k1, k2, k3⟩ := k a h3 m (by omega)
  exact ⟨b, m', by rw [Mb_eq h1]; exact k1, by omega, k3⟩
theorem Dr.pure {α : Type} {a : α} {c : Nat} {Q : α → Prop} (h : Q a) : Dr (Mp a) c Q := fun n _ => ⟨a, n, rfl, by omega, h⟩
theorem Dr.mono {α : Type} {x : M α} {c e : Nat} {Q R : α → Prop} (h : Dr x c Q) (hc : c ≤ e) (k : ∀ a, Q a → R a) : Dr x e R := fun n hn => by
  obtain ⟨a, m, h1, h2, h3⟩ := h n (by omega)
  exact ⟨a, m, h1, by omega, k a h3⟩
theorem Dr.of {α : Type} {x : M α} {a : α} {c : Nat} {Q : α → Prop} (h : ∀ n, x n = some (a, n)) (q : Q a) : Dr x c Q := fun n _ => ⟨a, n, h n, by omega, q⟩
end Sh

set_option Elab.async false
set_option linter.all false
set_option maxRecDepth 100000
/-! dicts: looked up, asked, written -/
namespace Sh
open PySem L2 Nf
def keyD : D → Option Key
  | .int i => some (.inl i)
  | .str x => some (.inr x)
  | _ => none
def dval : List Key → List D → Key → Option D
  | k' :: ks, d :: ds, k => if k' = k then some d else dval ks ds k
  | _, _, _ => none
theorem Fz.key {c : Cn} {R : Hp} {v : V} {d : D} {k : Key} (h : Fz c R v d) (e : keyD d = some k) : v = kV k := by
  cases h <;> first | (cases e; rfl) | cases e
theorem FzA.dv {c : Cn} {R : Hp} {k : Key} : ∀ {kvs : List (Key × V)} {ds : List D}, FzA c R (kvs.map Prod.snd) ds → match dval (kvs.map Prod.fst) ds k with
    | some d => ∃ v, valV kvs k = some v ∧ Fz c R v d
    | none => valV kvs k = none
  | [], _, .nil => rfl
  | p :: r, _, .cons (d := d) (ds := ds) h q => by
    show match (if p.1 = k then some d else dval (r.map Prod.fst) ds k) with
      | some d => ∃ v, valV (p :: r) k = some v ∧ Fz c R v d
      | none => valV (p :: r) k = none
    by_cases e : p.1 = k
    · rw [if_pos e]; exact ⟨p.2, valV_pos e, h⟩
    · rw [if_neg e, valV_neg e]; exact FzA.dv q
/-- d[k] -/
def fDG : D → D → Option D
  | .dk ks vs, y => (keyD y).bind fun k => dval ks vs k
  | x, y => fIx x y
section
variable {X : Cx} {Γ : Gm} {a b e f : Expr} {ta tb tc : Ed} {pos apos cpos : Pos}
theorem PE.or {e : Expr} {t t' : TE} (h : PE X e t) (h' : PE X e t') : PE X e fun σ H Q => t σ H Q ∨ t' σ H Q := ⟨fun pins s σ H Q I q => by
  rcases q with q | q
  · exact h.run pins s σ H Q I q
  · exact h'.run pins s σ H Q I q⟩
theorem rd_le {R H : Hp} {x : Addr} {u : HO} (S : Same R H) (h : Rd R x u) : Rd H x u := S.le.1 x u h
theorem d_ixD (hu : X.A.units + 64 < cLine) (ha : DE X Γ a ta) (hb : DE X Γ b tb) (hs : PlainIx b := by exact fun _ _ => rfl) (hn : NoSl b := by exact fun _ _ => rfl) (hK : X.K = Γ.c.K := by rfl) : DE X Γ (.Subscript a b pos) (e2 fDG ta tb) :=
  ⟨PE.wk (PE.or (pe_ix ix_seq ha.p hb.p hs) (pe_dget (by omega) ha.p hb.p hn)) fun σ H Q ⟨R, ρ, n, r, n', rp, e, q⟩ => by
    obtain ⟨x, m, e1, e⟩ := Mb_some e
    obtain ⟨y, m2, e2, e⟩ := Mb_some e
    obtain ⟨ee, rfl⟩ := Mo_some e
    by_cases hx : ∃ ks vs, x = .dk ks vs
    · obtain ⟨ks, vs, rfl⟩ := hx
      refine .inr ⟨R, ρ, n, _, m, rp, e1, fun v R1 H1 rp1 S1 z1 => ⟨R1, ρ, m, y, _, rp1, e2, fun u R2 H2 rp2 S2 z2 => ?_⟩⟩
      obtain ⟨k, ek, ev⟩ := Option.bind_eq_some_iff.mp (show (keyD y).bind (fun k => dval ks vs k) = some r from ee)
      cases z1.mono S2.le with
      | @dk a kvs _ h1 h2 h3 =>
        have hd := h3.dv (k := k)
        rw [ev] at hd
        obtain ⟨w, hw, fw⟩ := hd
        exact ⟨a, w, rfl, .inl ⟨kvs, k, rd_le rp2.hp.same h1, z2.key ek, hw.symm⟩, q w R2 H2 rp2 (S1.trans S2) fw⟩
    · refine .inl ⟨R, ρ, n, x, m, rp, e1, fun v R1 H1 rp1 S1 z1 => ⟨R1, ρ, m, y, _, rp1, e2, fun u R2 H2 rp2 S2 z2 => ?_⟩⟩
      have ee' : fIx x y = some r := by
        cases x <;> first | exact ee | exact absurd ⟨_, _, rfl⟩ hx
      exact o2Ix hK R2 H2 v u x y r ee' rp2.hp.same (z1.mono S2.le) z2 σ ρ _ Q rp2 fun w R3 H3 rp3 S3 z3 => q w R3 H3 rp3 ((S1.trans S2).trans S3) z3⟩
/-- k in d -/
def rDIn (b : Bool) : R2 := fun y x H Q => ∃ a o, x = .ref a ∧ DGet H a y o ∧ Q (.bl (Bool.xor b o.isSome)) H
theorem op_in_d (hu : X.A.units + 1 < cLine) : OpR X (compareOp .In) (rDIn false) := fun pins s σ H x y v u Q I rx ry h => by
  obtain ⟨a, o, rfl, g, q⟩ := h
  obtain rfl : u = Value.ref a := ry
  exact L2.d_in hu I g rx fun s3 I3 => ⟨.bl o.isSome, H, I3, rfl, by simpa using q⟩
theorem op_notin_d (hu : X.A.units + 1 < cLine) : OpR X (compareOp .NotIn) (rDIn true) := fun pins s σ H x y v u Q I rx ry h => by
  obtain ⟨a, o, rfl, g, q⟩ := h
  obtain rfl : u = Value.ref a := ry
  exact L2.d_notIn hu I g rx fun s3 I3 => ⟨.bl (!o.isSome), H, I3, rfl, by simpa using q⟩
def inDD : D → D → Option Bool
  | x, .dk ks vs => (keyD x).map fun k => (dval ks vs k).isSome
  | x, y => inD x y
def fInD (x y : D) : Option D := (inDD x y).map .bl
def fNotInD (x y : D) : Option D := (inDD x y).map fun b => .bl (!b)
theorem dv_some {c : Cn} {R : Hp} {k : Key} {kvs : List (Key × V)} {ds : List D} (h : FzA c R (kvs.map Prod.snd) ds) : (valV kvs k).isSome = (dval (kvs.map Prod.fst) ds k).isSome := by
  have := h.dv (k := k)
  cases e : dval (kvs.map Prod.fst) ds k with
  | none => rw [e] at this; rw [this]; rfl
  | some d => rw [e] at this; obtain ⟨v, hv, _⟩ := this; rw [hv]; rfl
theorem inDD_ne {x y : D} (h : ¬ ∃ ks vs, y = .dk ks vs) : inDD x y = inD x y := by
  cases y <;> first | rfl | exact absurd ⟨_, _, rfl⟩ h
theorem o2InD (hK : X.K = Γ.c.K) : Op2 Γ (fun x y H Q => (rIn X.K false x y H Q ∨ ∃ i j, x = .str i ∧ y = .str j ∧ Q (.bl (!(Builtin.Str.occurrences j i 0 j.length 1).isEmpty)) H) ∨ rDIn false x y H Q) fInD := fun R H x y dx dy d e S z1 z2 => by
  by_cases hx : ∃ ks vs, dy = .dk ks vs
  · obtain ⟨ks, vs, rfl⟩ := hx
    obtain ⟨b, e1, rfl⟩ := Option.map_eq_some_iff.mp e
    obtain ⟨k, ek, rfl⟩ := Option.map_eq_some_iff.mp (show (keyD dx).map (fun k => (dval ks vs k).isSome) = some b from e1)
    cases z2 with
    | @dk a kvs _ h1 h2 h3 =>
      exact gives_c (.bl _) fun Q q => .inr ⟨a, _, rfl, .inl ⟨kvs, k, rd_le S h1, z1.key ek, rfl⟩, by rw [dv_some h3]; simpa using q⟩
  · have e' : fIn dx dy = some d := by unfold fIn; unfold fInD at e; rw [inDD_ne hx] at e; exact e
    exact fun σ ρ n Q rp q => .inl (o2In hK R H x y dx dy d e' S z1 z2 σ ρ n Q rp q)
theorem o2NotInD (hK : X.K = Γ.c.K) : Op2 Γ (fun x y H Q => (rIn X.K true x y H Q ∨ ∃ i j, x = .str i ∧ y = .str j ∧ Q (.bl (!!(Builtin.Str.occurrences j i 0 j.length 1).isEmpty)) H) ∨ rDIn true x y H Q) fNotInD := fun R H x y dx dy d e S z1 z2 => by
  by_cases hx : ∃ ks vs, dy = .dk ks vs
  · obtain ⟨ks, vs, rfl⟩ := hx
    obtain ⟨b, e1, rfl⟩ := Option.map_eq_some_iff.mp e
    obtain ⟨k, ek, rfl⟩ := Option.map_eq_some_iff.mp (show (keyD dx).map (fun k => (dval ks vs k).isSome) = some b from e1)
    cases z2 with
    | @dk a kvs _ h1 h2 h3 =>
      exact gives_c (.bl _) fun Q q => .inr ⟨a, _, rfl, .inl ⟨kvs, k, rd_le S h1, z1.key ek, rfl⟩, by rw [dv_some h3]; simpa using q⟩
  · have e' : fNotIn dx dy = some d := by unfold fNotIn; unfold fNotInD at e; rw [inDD_ne hx] at e; exact e
    exact fun σ ρ n Q rp q => .inl (o2NotIn hK R H x y dx dy d e' S z1 z2 σ ρ n Q rp q)
theorem d_inD (hu : X.A.units + 64 < cLine) (ha : DE X Γ a ta) (hb : DE X Γ b tb) (hm : behindInMarks .In b = false := by rfl) (hK : X.K = Γ.c.K := by rfl) : DE X Γ (.Compare a [.In] [b] pos) (e2 fInD ta tb) := d_cmp ((op_in_seq.or op_in_str).or (op_in_d (by omega))) (o2InD hK) ha hb hm
theorem d_notinD (hu : X.A.units + 64 < cLine) (ha : DE X Γ a ta) (hb : DE X Γ b tb) (hm : behindInMarks .NotIn b = false := by rfl) (hK : X.K = Γ.c.K := by rfl) : DE X Γ (.Compare a [.NotIn] [b] pos) (e2 fNotInD ta tb) := d_cmp ((op_notIn_seq.or op_notin_str).or (op_notin_d (by omega))) (o2NotInD hK) ha hb hm
theorem dt_inD (hu : X.A.units + 64 < cLine) (ha : DE X Γ a ta) (hb : DE X Γ b tb) (hm : behindInMarks .In b = false := by rfl) (hK : X.K = Γ.c.K := by rfl) : DT X Γ (.Compare a [.In] [b] pos) (trB (e2 fInD ta tb)) := dt_cmp ((op_in_seq.or op_in_str).or (op_in_d (by omega))) (o2InD hK) (bf_map (k := id)) ha hb hm
theorem dt_notinD (hu : X.A.units + 64 < cLine) (ha : DE X Γ a ta) (hb : DE X Γ b tb) (hm : behindInMarks .NotIn b = false := by rfl) (hK : X.K = Γ.c.K := by rfl) : DT X Γ (.Compare a [.NotIn] [b] pos) (trB (e2 fNotInD ta tb)) := dt_cmp ((op_notIn_seq.or op_notin_str).or (op_notin_d (by omega))) (o2NotInD hK) bf_map ha hb hm
/-- d.get(k), d.get(k, x) -/
def fGet : D → D → D → Option D
  | .dk ks vs, y, z => (keyD y).map fun k => (dval ks vs k).getD z
  | _, _, _ => none
def eGet (ta tb tc : Ed) : Ed := fun ρ => Mb (ta ρ) fun x => Mb (tb ρ) fun y => Mb (tc ρ) fun z => Mo (fGet x y z)
theorem get_ok {c : Cn} {R : Hp} {kvs : List (Key × V)} {ds : List D} {k : Key} {v : V} {z : D} (h : FzA c R (kvs.map Prod.snd) ds) (hz : Fz c R v z) : Fz c R ((valV kvs k).getD v) ((dval (kvs.map Prod.fst) ds k).getD z) := by
  have := h.dv (k := k)
  cases e : dval (kvs.map Prod.fst) ds k with
  | none => rw [e] at this; rw [this]; exact hz
  | some d => rw [e] at this; obtain ⟨w, hw, fw⟩ := this; rw [hw]; exact fw
theorem d_get1 (hu : X.A.units + 64 < cLine) (ha : DE X Γ a ta) (hb : DE X Γ e tb) (m : M1 X a "get" apos e cpos := by exact ⟨rfl, rfl, rfl, rfl⟩) : DE X Γ (.Call (.Attribute a "get" apos) [e] [] cpos) (eGet ta tb (eC .non)) :=
  ⟨PE.wk (pe_dget1 (by omega) ha.p hb.p m) fun σ H Q ⟨R, ρ, n, r, n', rp, e, q⟩ => by
    obtain ⟨x, m, e1, e⟩ := Mb_some e
    obtain ⟨y, m2, e2, e⟩ := Mb_some e
    obtain ⟨z, m3, e3, e⟩ := Mb_some e
    obtain ⟨ee, rfl⟩ := Mo_some e
    cases e3
    refine ⟨R, ρ, n, x, m, rp, e1, fun v R1 H1 rp1 S1 z1 => ?_⟩
    cases x with
    | dk ks vs =>
      obtain ⟨k, ek, rfl⟩ := Option.map_eq_some_iff.mp (show (keyD y).map (fun k => (dval ks vs k).getD .non) = some r from ee)
      cases z1 with
      | @dk a kvs _ h1 h2 h3 =>
        refine ⟨a, rfl, .inl ⟨kvs, rd_le rp1.hp.same h1⟩, R1, ρ, m, y, _, rp1, e2, fun u R2 H2 rp2 S2 z2 => ⟨_, .inl ⟨kvs, k, rd_le rp2.hp.same (S2.le.1 _ _ h1), z2.key ek, rfl⟩, q _ R2 H2 rp2 (S1.trans S2) (get_ok (h3.mono S2.le) .non)⟩⟩
    | _ => cases ee⟩
theorem d_get2 (hu : X.A.units + 64 < cLine) (ha : DE X Γ a ta) (hb : DE X Γ e tb) (hc : DE X Γ f tc) (m : M2 X a "get" apos e f cpos := by exact ⟨rfl, rfl, rfl, rfl⟩) : DE X Γ (.Call (.Attribute a "get" apos) [e, f] [] cpos) (eGet ta tb tc) :=
  ⟨PE.wk (pe_dget2 (by omega) ha.p hb.p hc.p m) fun σ H Q ⟨R, ρ, n, r, n', rp, e, q⟩ => by
    obtain ⟨x, m, e1, e⟩ := Mb_some e
    obtain ⟨y, m2, e2, e⟩ := Mb_some e
    obtain ⟨z, m3, e3, e⟩ := Mb_some e
    obtain ⟨ee, rfl⟩ := Mo_some e
    refine ⟨R, ρ, n, x, m, rp, e1, fun v R1 H1 rp1 S1 z1 => ?_⟩
    cases x with
    | dk ks vs =>
      obtain ⟨k, ek, rfl⟩ := Option.map_eq_some_iff.mp (show (keyD y).map (fun k => (dval ks vs k).getD z) = some r from ee)
      cases z1 with
      | @dk a kvs _ h1 h2 h3 =>
        refine ⟨a, rfl, .inl ⟨kvs, rd_le rp1.hp.same h1⟩, R1, ρ, m, y, _, rp1, e2, fun u R2 H2 rp2 S2 z2 => ⟨R2, ρ, m2, z, _, rp2, e3, fun t R3 H3 rp3 S3 z3 => ⟨_, .inl ⟨kvs, k, rd_le rp3.hp.same (S3.le.1 _ _ (S2.le.1 _ _ h1)), (z2.mono S3.le).key ek, rfl⟩, q _ R3 H3 rp3 ((S1.trans S2).trans S3) (get_ok ((h3.mono S2.le).mono S3.le) z3)⟩⟩⟩
    | _ => cases ee⟩
end
end Sh

set_option Elab.async false
set_option linter.all false
set_option maxRecDepth 100000
/-! dicts made: displays, comprehensions, owned ones written -/
namespace Sh
open PySem L2 Nf
def repl : List Key → List D → Key → D → List D
  | k' :: ks, v :: vs, k, d => (if k' = k then d else v) :: repl ks vs k d
  | _, _, _, _ => []
def putD (a : List Key × List D) (k : Key) (d : D) : List Key × List D := if a.1.any (fun k' => decide (k' = k)) = true then (a.1, repl a.1 a.2 k d) else (a.1 ++ [k], a.2 ++ [d])
theorem repl_fz {c : Cn} {R : Hp} {k : Key} {v : V} {d : D} (hv : Fz c R v d) : ∀ {kvs : List (Key × V)} {ds : List D}, FzA c R (kvs.map Prod.snd) ds → FzA c R ((kvs.map fun kv => if kv.1 = k then (kv.1, v) else kv).map Prod.snd) (repl (kvs.map Prod.fst) ds k d)
  | [], _, .nil => .nil
  | p :: r, _, .cons (d := e) (ds := es) h q => by
    show FzA c R ((if p.1 = k then (p.1, v) else p).2 :: ((r.map fun kv => if kv.1 = k then (kv.1, v) else kv).map Prod.snd)) ((if p.1 = k then d else e) :: repl (r.map Prod.fst) es k d)
    refine .cons ?_ (repl_fz hv q)
    by_cases e1 : p.1 = k
    · rw [if_pos e1, if_pos e1]; exact hv
    · rw [if_neg e1, if_neg e1]; exact h
theorem repl_fst {k : Key} {v : V} : ∀ kvs : List (Key × V), (kvs.map fun kv => if kv.1 = k then (kv.1, v) else kv).map Prod.fst = kvs.map Prod.fst
  | [] => rfl
  | p :: r => by
    simp only [List.map_cons]
    rw [repl_fst r]
    congr 1
    split <;> rfl
theorem put_fz {c : Cn} {R : Hp} {k : Key} {v : V} {d : D} {kvs : List (Key × V)} {ds : List D} (h : FzA c R (kvs.map Prod.snd) ds) (hv : Fz c R v d) :
    (putK kvs k v).map Prod.fst = (putD (kvs.map Prod.fst, ds) k d).1 ∧ FzA c R ((putK kvs k v).map Prod.snd) (putD (kvs.map Prod.fst, ds) k d).2 ∧ (putK kvs k v).length ≤ kvs.length + 1 := by
  unfold putK putD
  have ea : (kvs.any fun kv => decide (kv.1 = k)) = (kvs.map Prod.fst).any (fun k' => decide (k' = k)) := by rw [List.any_map]; rfl
  rw [ea]
  by_cases e : ((kvs.map Prod.fst).any (fun k' => decide (k' = k))) = true
  · rw [if_pos e]
    simp only [e, if_true]
    exact ⟨repl_fst kvs, repl_fz hv h, by rw [List.length_map]; omega⟩
  · rw [if_neg e]
    simp only [e, if_false]
    refine ⟨by rw [List.map_append]; rfl, ?_, by rw [List.length_append]; exact Nat.le_refl _⟩
    rw [List.map_append]
    exact h.app (.cons hv .nil)
theorem _root_.L2.dc_it {J : It} {nn : Nat} {G : Hp → Prop} {Y : Nat → Hp → V → Hp → Prop} (w : Walk J nn G Y) {g : TG} {tt : TT} {tk tv : TE} {vs : List Nat} {σ : St} {H1 : Hp} {D : Addr} {Qd : Hp → Prop} (Pv : Nat → Hp → Prop) (h0 : Pv 0 (upd H1 D (.dK []))) (hG : ∀ i H, i ≤ nn → Pv i H → G H)
    (hs : ∀ i x H H', i < nn → Pv i H → Y i H x H' → g x (wipe σ vs) H' fun σ2 H2 => wipe σ2 vs = wipe σ vs ∧ tt σ2 H2 fun b H3 =>
      if b = true then tk σ2 H3 fun y H4 => tv σ2 H4 fun z H5 => ∃ kvs k, y = kV k ∧ H5 D = some (.dK kvs) ∧ kvs.length < sizeLine ∧ Pv (i + 1) (upd H5 D (.dK (putK kvs k z))) else Pv (i + 1) H3) (hd : ∀ H, Pv nn H → Qd H) :
    ∃ W : Nat → Nat → Hp → Prop, (∃ m, W 0 m (upd H1 D (.dK []))) ∧ ∀ i m H, W i m H →
      (J.stop i H ∧ Qd H) ∨ (J.go i H ∧ ∃ Nx : Hp → Prop, (∀ H', Nx H' → ∃ m', m' < m ∧ W (i + 1) m' H') ∧ ∀ x H', J.yld i H x H' → g x (wipe σ vs) H' fun σ2 H2 => wipe σ2 vs = wipe σ vs ∧ tt σ2 H2 fun b H3 =>
        if b = true then tk σ2 H3 fun y H4 => tv σ2 H4 fun z H5 => ∃ kvs k, y = kV k ∧ H5 D = some (.dK kvs) ∧ kvs.length < sizeLine ∧ Nx (upd H5 D (.dK (putK kvs k z))) else Nx H3) := by
  refine ⟨fun i m H => m = nn - i ∧ i ≤ nn ∧ Pv i H, ⟨nn, by simp, Nat.zero_le _, h0⟩, ?_⟩
  rintro i m H ⟨rfl, hi, p⟩
  have q := hG i H hi p
  by_cases hlt : i < nn
  · refine .inr ⟨w.goes i H hlt q, Pv (i + 1), fun H' p' => ⟨nn - (i + 1), by omega, rfl, hlt, p'⟩, fun x H' y => hs i x H H' hlt p (w.yields i H x H' hlt q y)⟩
  · have e : i = nn := by omega
    subst e
    exact .inl ⟨w.stops H q, hd H p⟩
section
variable {X : Cx} {Γ : Gm}
def dcM (g : Gd) (tt : Td) (tk tv : Ed) (ρ : Sd) : List D → List Key × List D → M (List Key × List D)
  | [], a => Mp a
  | d :: ds, a => Mb (Mo (g d ρ)) fun ρ1 => Mb (tt ρ1) fun b => if b = true then Mb (tk ρ1) fun y => Mb (tv ρ1) fun z => Mb (Mo (keyD y)) fun k => dcM g tt tk tv ρ ds (putD a k z) else dcM g tt tk tv ρ ds a
def eDc (ti : Id') (g : Gd) (tt : Td) (tk tv : Ed) (vs : List Nat) : Ed := fun ρ => Mb (ti ρ) fun ds => Mb (dcM g tt tk tv (wipeD ρ vs) ds ([], [])) fun a => Mp (.dk a.1 a.2)
set_option maxHeartbeats 1000000 in
theorem dc_up {ti : Id'} {g : Gd} {tt : Td} {tk tv : Ed} {vs : List Nat} {σ : L2.St} {H : Hp} {Q : VK} {R : Hp} {ρ : Sd} {n : Nat} {r : D} {n' : Nat} (rp : Rp Γ R H σ ρ n) (e : eDc ti g tt tk tv vs ρ n = some (r, n'))
    (q : ∀ (Z : Addr) (us : List (Key × V)) (R' H' : Hp), Rp Γ R' H' σ ρ n' → Go Γ R H R' H' → H Z = none → NoO Γ σ ρ Z → Γ.H0 Z = none → H' Z = some (.dK us) → R' Z = none → us.length ≤ sizeLine → (∃ rs, r = .dk (us.map Prod.fst) rs ∧ FzA Γ.c R' (us.map Prod.snd) rs) → Q (.ref Z) H') :
    tDc (upI Γ ti) (upG Γ vs g) (upT Γ tt) (up Γ tk) (up Γ tv) vs σ H Q := by
  obtain ⟨ds, m, e1, e⟩ := Mb_some e
  obtain ⟨rs, m2, e2, e⟩ := Mb_some e
  cases e
  · refine ⟨R, ρ, n, ds, m, rp, e1, fun J G Y R1 H1 rp1 S1 W hG hY hzz Z hZ => ?_⟩
    have hR1 : R1 Z = none := rp1.hp.same.free hZ
    have h0 : Γ.H0 Z = none := rp1.hp.nn hZ
    have hdm : Z ∉ Γ.W.dom := fun z => rp1.hp.d0 Z z h0
    have hnO := rp1.noO hZ
    have hHZ : H Z = none := S1.nn Z hZ
    refine dc_it W (fun i H2 => ∃ R2 n2 us as, Rp Γ R2 H2 σ ρ n2 ∧ Go Γ R H R2 H2 ∧ Same R1 R2 ∧ H2 Z = some (.dK us) ∧ R2 Z = none ∧ FzA Γ.c R2 (us.map Prod.snd) as ∧ dcM g tt tk tv (wipeD ρ vs) (ds.drop i) (us.map Prod.fst, as) n2 = some (rs, n') ∧ us.length ≤ i) ?_ ?_ ?_ ?_
    · exact ⟨R1, m, [], [], rp1.lay0 hZ, S1.lay0 hZ, Same.refl _, upd_same, hR1, .nil, by rw [List.drop_zero]; exact e2, Nat.le_refl _⟩
    · rintro i H2 _ ⟨R2, n2, us, as, rp2, _, S2, _⟩
      exact hG H2 (S2.trans rp2.hp.same)
    · rintro i x H2 H3 hi ⟨R2, n2, us, as, rp2, g2, S2, hZ2, hRZ2, f2, e3, hl⟩ hy
      have hd : ds[i]? = some ds[i] := List.getElem?_eq_getElem hi
      rw [List.drop_eq_getElem_cons hi] at e3
      obtain ⟨R3, rp3, g3, z3⟩ := yok_step rp2 hY S2 hd hy
      obtain ⟨hZ3, hRZ3⟩ := g3.stay hZ2 hdm hRZ2
      obtain ⟨ρ1, n3, e4, e5⟩ := Mb_some e3
      obtain ⟨e4', rfl⟩ := Mo_some e4
      obtain ⟨b, n4, e6, e7⟩ := Mb_some e5
      refine ⟨R3, wipeD ρ vs, n3, ds[i], ρ1, rp3.wipe vs, z3, e4', fun σ1 hl1 ha1 rp1' => ⟨?_, R3, ρ1, n3, b, n4, rp1', e6, fun R4 H4 rp4 g4 => ?_⟩⟩
      · refine wipe_eq (by rw [hl1, wipe_length]) fun j hj => ?_
        rw [ha1 j hj, wipe_out hj]
      · obtain ⟨hZ4, hRZ4⟩ := g4.stay hZ3 hdm hRZ3
        cases b with
        | true =>
          obtain ⟨y, n5, e8, e9⟩ := Mb_some (show Mb (tk ρ1) (fun y => Mb (tv ρ1) fun z => Mb (Mo (keyD y)) fun k => dcM g tt tk tv (wipeD ρ vs) (ds.drop (i + 1)) (putD (us.map Prod.fst, as) k z)) n4 = some (rs, n') from e7)
          obtain ⟨z, n6, e10, e11⟩ := Mb_some e9
          obtain ⟨k, n7, e12, e13⟩ := Mb_some e11
          obtain ⟨ek, rfl⟩ := Mo_some e12
          refine iteT ⟨R4, ρ1, n4, y, n5, rp4, e8, fun v R5 H5 rp5 g5 z5 => ⟨R5, ρ1, n5, z, _, rp5, e10, fun v' R6 H6 rp6 g6 z6 => ?_⟩⟩
          obtain ⟨hZ5, hRZ5⟩ := g5.stay hZ4 hdm hRZ4
          obtain ⟨hZ6, hRZ6⟩ := g6.stay hZ5 hdm hRZ5
          have f6 := (((f2.mono g3.le).mono g4.le).mono g5.le).mono g6.le
          have g26 := ((g3.trans g4).trans g5).trans g6
          obtain ⟨p1, p2, p3⟩ := put_fz (k := k) f6 z6
          refine ⟨us, k, z5.key ek, hZ6, by omega, R6, _, putK us k v', _, (rp2.along g26 rp6.hp).mutO hRZ6 h0 hnO, (g2.trans g26).mutN hHZ, S2.trans g26.same, upd_same, hRZ6, p2, ?_, by omega⟩
          rw [p1]
          exact e13
        | false =>
          have g24 := g3.trans g4
          exact iteF ⟨R4, n4, us, as, rp2.along g24 rp4.hp, g2.trans g24, S2.trans g24.same, hZ4, hRZ4, (f2.mono g3.le).mono g4.le, e7, by omega⟩
    · rintro H2 ⟨R2, n2, us, as, rp2, g2, S2, hZ2, hRZ2, f2, e3, hl⟩
      rw [List.drop_length] at e3
      cases e3
      exact q Z us R2 H2 rp2 g2 hHZ hnO h0 hZ2 hRZ2 (by omega) ⟨_, rfl, f2⟩
theorem do_dc {kx vx tg iter : Expr} {ifs : List Expr} {scope : Scope} {own : List (Str × Nat)} {vs : List Nat} {pos : Pos} {ti : Id'} {g : Gd} {tt : Td} {tk tv : Ed} (hN : X.N.Nodup) (hi : DI X Γ tg iter ti) (ok : BlkOk X.N X.env.scope scope own)
    (hg : ∀ (s : Shared) (H : Hp) (C : Addr) (cl : List (Str × Addr)) (fp : List Addr), DG (X.blk s H scope (compEnvC scope cl C X.env) fp) Γ tg vs g) (ht : ∀ (s : Shared) (H : Hp) (C : Addr) (cl : List (Str × Addr)) (fp : List Addr), DTs (X.blk s H scope (compEnvC scope cl C X.env) fp) Γ ifs tt)
    (hk : ∀ (s : Shared) (H : Hp) (C : Addr) (cl : List (Str × Addr)) (fp : List Addr), DE (X.blk s H scope (compEnvC scope cl C X.env) fp) Γ kx tk)
    (he : ∀ (s : Shared) (H : Hp) (C : Addr) (cl : List (Str × Addr)) (fp : List Addr), DE (X.blk s H scope (compEnvC scope cl C X.env) fp) Γ vx tv) (hvs : own.map (·.2) = vs := by rfl) (hc : X.calm = true := by rfl) (hs : ∀ x, foldedSetIterable iter X.env x = pure x := by intro _; rfl) :
    DO X Γ (.DictComp kx vx [⟨tg, iter, ifs, 0⟩] scope pos) (eDc ti g tt tk tv vs) :=
  ⟨PE.wk (pe_dc hc hN hi.p ok (fun s H C cl fp => (hg s H C cl fp).p) (fun s H C cl fp => (ht s H C cl fp).p) (fun s H C cl fp => (hk s H C cl fp).p) (fun s H C cl fp => (he s H C cl fp).p) hs) fun σ H Q ⟨R, ρ, n, r, n', rp, e, q⟩ => by
    rw [hvs]
    refine dc_up rp e fun Z us R' H' rp' g' hZ hnO h0 hZ' hR' hl ⟨rs, er, f⟩ => ?_
    subst er
    exact q _ _ R' H' rp' g' hZ hZ' hR' h0 hnO (.dk hl f)⟩
/-- {} -/
theorem do_dict0 {pos : Pos} : DO X Γ (.Dict [] [] pos) (eC (.dk [] [])) := ⟨PE.wk pe_dnewK fun σ H Q ⟨R, ρ, n, r, n', rp, e, q⟩ => by
  cases e
  exact fun p hp => q p _ R _ (rp.lay0 hp) (Go.lay0 (Go.refl _ _ _) hp) hp upd_same (rp.hp.same.free hp) (rp.hp.nn hp) (rp.noO hp) (.dk (kvs := []) (by show 0 ≤ sizeLine; decide) .nil)⟩
/-- d[k] = v, d owned -/
def sPut (i : Nat) (tk tv : Ed) : Bd := fun ρ => Mb (tv ρ) fun d => Mb (eVar i ρ) fun l => Mb (tk ρ) fun y => match l with
  | .dk ks vs => if ks.length < sizeLine then Mb (Mo (keyD y)) fun k => Mp (.next (ρ.set i (some (.dk (putD (ks, vs) k d).1 (putD (ks, vs) k d).2)))) else Mo none
  | _ => Mo none
theorem Rp.ownD {R H : Hp} {σ : L2.St} {ρ : Sd} {n i : Nat} {ks : List Key} {ds : List D} (h : Rp Γ R H σ ρ n) (hi : i ∈ Γ.ow) (e : ρ[i]? = some (some (.dk ks ds))) : ∃ a kvs, σ[i]? = some (some (.ref a)) ∧ H a = some (.dK kvs) ∧ R a = none ∧ Γ.H0 a = none ∧ kvs.length ≤ sizeLine ∧ ks = kvs.map Prod.fst ∧ FzA Γ.c R (kvs.map Prod.snd) ds ∧ a ∉ Γ.W.dom := by
  obtain ⟨a, o, h1, h2, h3, h4, h5⟩ := h.own i _ hi e
  cases h5 with
  | dk z f => exact ⟨a, _, h1, h2, h3, h4, z, rfl, f, fun m => h.hp.d0 a m h4⟩
theorem ds_put {i : Nat} {o kx vx : Expr} {tk tv : Ed} {pos pos' : Pos} (hu : X.A.units + 64 < cLine) (ho : PE X o (tVar i)) (hk : DE X Γ kx tk) (hv : DE X Γ vx tv) (hio' : Γ.ow.contains i = true := by rfl) (hs : swapsWith vx (some (.Subscript o kx pos')) pos.line X.env = pure false := by rfl) :
    DS X Γ (.Assign [.Subscript o kx pos'] vx pos) (sPut i tk tv) :=
  have hio := mem_of hio'
  ⟨PS.wk (ps_dput (by omega) ho hk.p hv.p hs) fun E σ H ⟨R, ρ, n, fl, n', rp, e, q⟩ => by
    obtain ⟨d, m, e1, ea⟩ := Mb_some e
    obtain ⟨l, m2, e2, eb⟩ := Mb_some ea
    obtain ⟨y, m3, e3, ec⟩ := Mb_some eb
    obtain ⟨e2', rfl⟩ := eVar_some e2
    clear e ea eb e2
    cases l with
    | dk ks vs =>
      by_cases hz : ks.length < sizeLine
      · have e' : Mb (Mo (keyD y)) (fun k => Mp (Fl.next (ρ.set i (some (.dk (putD (ks, vs) k d).1 (putD (ks, vs) k d).2))))) m3 = some (fl, n') := by
          rw [← ec]; show _ = (if ks.length < sizeLine then _ else Mo none) m3
          rw [if_pos hz]
        obtain ⟨k, m4, e4, e5⟩ := Mb_some e'
        obtain ⟨ek, rfl⟩ := Mo_some e4
        cases e5
        refine ⟨R, ρ, n, d, _, rp, e1, fun v R1 H1 rp1 g1 z1 => ?_⟩
        obtain ⟨la, kvs, h1, h2, h3, h4, h5, rfl, f, hd⟩ := rp1.ownD hio e2'
        refine ⟨_, h1, R1, ρ, _, y, _, rp1, e3, fun u R2 H2 rp2 g2 z2 => ?_⟩
        obtain ⟨h2', h3'⟩ := g2.stay h2 hd h3
        obtain ⟨p1, p2, p3⟩ := put_fz (k := k) (f.mono g2.le) (z1.mono g2.le)
        have hlen : kvs.length < sizeLine := by rw [List.length_map] at hz; exact hz
        refine ⟨la, _, rfl, .inl ⟨kvs, k, h2', z2.key ek, hlen, rfl⟩, q R2 _ σ ?_ (g1.same.trans g2.same)⟩
        rw [← p1]
        exact rp2.mut hio e2' h1 (.dk (by omega) p2)
      · have e' : (none : Option (Fl × Nat)) = some (fl, n') := by
          rw [← ec]; show _ = (if ks.length < sizeLine then _ else Mo none) m3
          rw [if_neg hz]; rfl
        cases e'
    | _ => cases ec⟩
end
end Sh

set_option Elab.async false
set_option linter.all false
set_option maxRecDepth 100000
/-! what isn't come to; tuple(d), list(d), max(list) -/
namespace Sh
open PySem PySem.Spec PyProof.Rows L2 Nf
section
variable {X : Cx} {Γ : Gm}
/-- a piece that is never come to: nothing is said of it -/
def eNo : Ed := fun _ _ => none
def tNo : Td := fun _ _ => none
def bNo : Bd := fun _ _ => none
def iNo : Id' := fun _ _ => none
theorem d_no {e : Expr} : DE X Γ e eNo := ⟨⟨fun pins s σ H Q I ⟨R, ρ, n, r, n', rp, e, q⟩ => nomatch e⟩⟩
theorem dt_no {e : Expr} : DT X Γ e tNo := ⟨⟨fun pins s σ H Q I ⟨R, ρ, n, r, n', rp, e, q⟩ => nomatch e⟩⟩
theorem ds_no {st : Stmt} : DS X Γ st bNo := ⟨⟨fun pins s σ H Q I ⟨R, ρ, n, r, n', rp, e, q⟩ => nomatch e⟩⟩
theorem db_no {st : List Stmt} : DB X Γ st bNo := ⟨⟨fun pins s σ H Q I ⟨R, ρ, n, r, n', rp, e, q⟩ => nomatch e⟩⟩
theorem di_no {tg e : Expr} : DI X Γ tg e iNo := ⟨⟨fun pins s σ H Q I ⟨R, ρ, n, r, n', rp, e, q⟩ => nomatch e⟩⟩
/-! tuple(d), list(d) -/
def dOf : Key → D
  | .inl i => .int i
  | .inr x => .str x
def keyOk : Key → Bool
  | .inl _ => true
  | .inr x => decide (x.length ≤ sizeLine)
def keysOk (ks : List Key) : Bool := ks.all keyOk
theorem keys_fz {c : Cn} {R : Hp} : ∀ {ks : List Key}, keysOk ks = true → FzA c R (ks.map kV) (ks.map dOf)
  | [], _ => .nil
  | k :: r, h => by
    obtain ⟨h1, h2⟩ := Bool.and_eq_true_iff.mp (show (keyOk k && keysOk r) = true by simpa [keysOk] using h)
    refine .cons ?_ (keys_fz h2)
    cases k with
    | inl i => exact .int i
    | inr x => exact .str x (of_decide_eq_true h1)
def rTupR : List V → Hp → VK → Prop := fun xs H Q => ∃ p kvs, xs = [.ref p] ∧ Rd H p (.dK kvs) ∧ ∀ q, H q = none → Q (.ref q) (upd H q (.tup (kvs.map fun kv => kV kv.1)))
theorem call_tup_dR {X : Cx} (hc : X.calm = true) : CallR X (.type "tuple") rTupR := by
  intro pins s σ H xs us Q I r h
  obtain ⟨p, kvs, rfl, hk, q⟩ := h
  obtain ⟨u, rfl, rx⟩ := vals1 r
  obtain rfl : u = Value.ref p := rx
  obtain ⟨z, lo, vs, rk, hd⟩ := dk_rd I.hok hk
  obtain ⟨ep, hat⟩ := hd.dictAt
  have hl : kvs.length = vs.length := Paired.length rk
  refine call_tup_src (PySem.W.kdl_dict (knd := mixKind X.prog X.w) (kvs := vs) (ep := ep) lo) (I.ok.hd hc) hat (hl ▸ z) fun h' tk acc hkeep hacc => ?_
  have I1 : Inv X pins σ H { s with heap := h', toks := tk } := I.kept (t' := tk) hkeep
  refine ⟨.ref h'.objs.size, upd H h'.objs.size (.tup (kvs.map fun kv => kV kv.1)), I1.laid (t' := tk) (fun b o e => Heap.get?_push_of_some _ e) (Nat.le_refl _) ?_, rfl, q _ (I1.hok.fresh (Nat.le_refl _))⟩
  refine (show ObjOk X.prog X.w _ _ _ (.tup (kvs.map fun kv => kV kv.1)) from ⟨by rw [List.length_map]; exact z, acc.toList, ?_, ?_⟩)
  · have el : acc.toList.length = acc.size := by simp
    refine vals_of_at (by rw [List.length_map, el, hacc.1, hl]) fun j x y h1 h2 => ?_
    obtain ⟨k, m, hky, hi⟩ := hacc.2 j y (by rw [← Array.getElem?_toList]; exact h2)
    have e1 : (kvs.map (·.1))[j]? = some k := by
      rw [KV.keys rk, List.getElem?_map, hky] <;> rfl
    rw [List.getElem?_map] at h1 e1
    obtain ⟨kv, hkv, rfl⟩ := Option.map_eq_some_iff.mp h1
    rw [hkv] at e1
    cases e1
    exact keyIs_rel hi
  · rw [Array.toArray_toList]
    exact IsTup.new _ _
def fTupD : D → Option D
  | .dk ks _ => if keysOk ks = true then some (.tup (ks.map dOf)) else none
  | x => fTuple x
def fListD : D → Option D
  | .dk ks _ => if keysOk ks = true then some (.lst (ks.map dOf)) else none
  | x => fList x
theorem kv_map (kvs : List (Key × V)) : (kvs.map fun kv => kV kv.1) = (kvs.map Prod.fst).map kV := by rw [List.map_map]; rfl
theorem c_listD (hK : X.K = Γ.c.K) : CallD Γ (fun xs H Q => (∃ p ys, xs = [.ref p] ∧ (SqL X.K H p ys ∨ SqT X.K H p ys) ∧ ∀ l, H l = none → Q (.ref l) (upd H l (.lst ys))) ∨ ∃ (a : Addr) (kvs : List (Key × V)), xs = [.ref a] ∧ Rd H a (.dK kvs) ∧ ∀ p, H p = none → Q (.ref p) (upd H p (.lst (kvs.map fun kv => kV kv.1)))) (f1 fListD) := call1 fun R H v dx d e S z => by
  by_cases hx : ∃ ks vs, dx = .dk ks vs
  · obtain ⟨ks, vs, rfl⟩ := hx
    cases z with
    | @dk a kvs _ h l q =>
      obtain ⟨hk, ee⟩ := ite_some (show (if keysOk (kvs.map Prod.fst) = true then some (D.lst ((kvs.map Prod.fst).map dOf)) else none) = some d from e)
      cases ee
      exact gives_new (o := .lst (kvs.map fun kv => kV kv.1)) (fun p R' e' S' => .lst e' (by rw [List.length_map]; exact l) (by rw [kv_map]; exact keys_fz hk)) fun Q qq => .inr ⟨a, kvs, rfl, rd_le S h, qq⟩
  · have e' : fList dx = some d := by
      cases dx <;> first | exact e | exact absurd ⟨_, _, rfl⟩ hx
    exact fun σ ρ n Q rp q => .inl (c_list hK R H [v] [dx] d e' S (.cons z .nil) σ ρ n Q rp q)
theorem c_tupD (hK : X.K = Γ.c.K) : CallD Γ (fun xs H Q => (∃ p ys, xs = [.ref p] ∧ ((SqL X.K H p ys ∧ ∀ l, H l = none → Q (.ref l) (upd H l (.tup ys))) ∨ (SqT X.K H p ys ∧ Q (.ref p) H))) ∨ rTupR xs H Q) (f1 fTupD) := call1 fun R H v dx d e S z => by
  by_cases hx : ∃ ks vs, dx = .dk ks vs
  · obtain ⟨ks, vs, rfl⟩ := hx
    cases z with
    | @dk a kvs _ h l q =>
      obtain ⟨hk, ee⟩ := ite_some (show (if keysOk (kvs.map Prod.fst) = true then some (D.tup ((kvs.map Prod.fst).map dOf)) else none) = some d from e)
      cases ee
      exact gives_new (o := .tup (kvs.map fun kv => kV kv.1)) (fun p R' e' S' => .tup (SqT.of e') (by rw [List.length_map]; exact l) (by rw [kv_map]; exact keys_fz hk)) fun Q qq => .inr ⟨a, kvs, rfl, rd_le S h, qq⟩
  · have e' : fTuple dx = some d := by
      cases dx <;> first | exact e | exact absurd ⟨_, _, rfl⟩ hx
    exact fun σ ρ n Q rp q => .inl (c_tuple hK R H [v] [dx] d e' S (.cons z .nil) σ ρ n Q rp q)
/-- list(x) as a list of its own -/
theorem do_list {e : Expr} {t : Ed} {x : Str} {p pos : Pos} (ha : DE X Γ e t) (hg : Gl X x) (hm : X.mg x = none) (hv : bootBuiltins x = some (.type "list")) (hn : x ≠ "__name__" := by decide) (hdb : (x == ("__debug__" : Str)) = false := by decide) (hc : X.calm = true := by rfl) (hK : X.K = Γ.c.K := by rfl)
    (he : starEach [e] X.env = (false, eval e X.env) :: starEach [] X.env := by rfl) (hpl : (backTo pos (starEach [] X.env)).any (·.1) = false := by rfl) : DO X Γ (.Call (.Name x p) [e] [] pos) (eF (f1 fListD) (aCons t aNil)) :=
  ⟨PE.wk (pe_callTy (call_list_of.or (call_listD hc)) hg hm hv (da_cons ha da_nil he).p hn hdb he hpl) fun σ H Q ⟨R, ρ, n, r, n', rp, e, q⟩ => by
    obtain ⟨ds, m, e1, e⟩ := Mb_some e
    obtain ⟨ee, rfl⟩ := Mo_some e
    refine ⟨R, ρ, n, ds, _, rp, e1, fun vs R1 H1 rp1 S1 z1 => ?_⟩
    match ds, ee with
    | [dx], ee =>
      obtain ⟨v, rfl, z⟩ := fzA1 z1
      have ee : fListD dx = some r := ee
      have fin : ∀ us ds, us.length ≤ sizeLine → FzA Γ.c R1 us ds → r = .lst ds → ∀ p, H1 p = none → Q (.ref p) (upd H1 p (.lst us)) := fun us ds hl f er p hp => by
        subst er
        exact q p _ R1 _ (rp1.lay0 hp) (S1.lay0 hp) (S1.nn p hp) upd_same (rp1.hp.same.free hp) (rp1.hp.nn hp) (rp1.noO hp) (.lst hl f)
      cases z with
      | tup h l f => cases ee; exact .inl ⟨_, _, rfl, .inr (hK ▸ rp1.hp.same.le.sqT h), fin _ _ l f rfl⟩
      | lst h l f => cases ee; exact .inl ⟨_, _, rfl, .inl (SqL.of (rp1.hp.same _ _ h)), fin _ _ l f rfl⟩
      | @dk a kvs _ h l f =>
        obtain ⟨hk, ee⟩ := ite_some (show (if keysOk (kvs.map Prod.fst) = true then some (D.lst ((kvs.map Prod.fst).map dOf)) else none) = some r from ee)
        cases ee
        exact .inr ⟨a, kvs, rfl, rd_le rp1.hp.same h, fin _ _ (by rw [List.length_map]; exact l) (by rw [kv_map]; exact keys_fz hk) rfl⟩
      | _ => cases ee⟩
/-! max of a list of numbers -/
def mxI : List Int → Option Int
  | [] => none
  | [x] => some x
  | x :: r => (mxI r).map fun m => if m > x then m else x
theorem mxI_ok : ∀ {ns : List Int} {m : Int}, mxI ns = some m → m ∈ ns ∧ ∀ y ∈ ns, y ≤ m
  | [], _, h => by cases h
  | [x], m, h => by cases h; simp
  | x :: y :: r, m, h => by
    obtain ⟨k, hk, rfl⟩ := Option.map_eq_some_iff.mp (show (mxI (y :: r)).map (fun m => if m > x then m else x) = some m from h)
    obtain ⟨h1, h2⟩ := mxI_ok hk
    by_cases e : k > x
    · rw [if_pos e]
      exact ⟨List.mem_cons_of_mem _ h1, fun z hz => (List.mem_cons.mp hz).elim (fun e' => by omega) (h2 z)⟩
    · rw [if_neg e]
      exact ⟨List.mem_cons_self, fun z hz => (List.mem_cons.mp hz).elim (fun e' => by omega) (fun h => by have := h2 z h; omega)⟩
theorem mxI_uniq {ns : List Int} {m k : Int} (h : mxI ns = some m) (hk : k ∈ ns) (h2 : ∀ y ∈ ns, y ≤ k) : k = m := by
  obtain ⟨a, b⟩ := mxI_ok h
  have := b k hk
  have := h2 m a
  omega
def fMaxL : D → Option D
  | .lst ds => (inz ds).bind fun ns => (mxI ns).map .int
  | _ => none
theorem c_maxL : CallD Γ (rMax X.K) (f1 fMaxL) := call1 fun R H v dx d e S z => by
  cases z with
  | lst h l q =>
    obtain ⟨ns, e1, e2⟩ := Option.bind_eq_some_iff.mp e
    obtain ⟨m, e3, rfl⟩ := Option.map_eq_some_iff.mp e2
    have hx := inz_of q e1
    subst hx
    exact gives_c (.int _) fun Q qq => ⟨_, ns, rfl, SqL.of (S _ _ h), List.length_pos_of_mem (mxI_ok e3).1, fun k hk h2 => by rw [mxI_uniq e3 hk h2]; exact qq⟩
  | _ => cases e
/-- name = {k: v for ..} -/
theorem ds_setDc {i : Nat} {y : Str} {py pos : Pos} {kx vx tg iter : Expr} {ifs : List Expr} {scope : Scope} {own : List (Str × Nat)} {vs : List Nat} {spos : Pos} {ti : Id'} {g : Gd} {tt : Td} {tk tv : Ed} (hN : X.N.Nodup) (hy : X.N[i]? = some y) (hyl : X.env.scope.names.lookup y = some .local)
    (hsw : swapsWith (.DictComp kx vx [⟨tg, iter, ifs, 0⟩] scope pos) (some (.Name y py)) spos.line X.env = pure true) (hi : DI X Γ tg iter ti) (ok : BlkOk X.N X.env.scope scope own)
    (hg : ∀ (s : Shared) (H : Hp) (C : Addr) (cl : List (Str × Addr)) (fp : List Addr), DG (X.blk s H scope (compEnvC scope cl C X.env) fp) Γ tg vs g) (ht : ∀ (s : Shared) (H : Hp) (C : Addr) (cl : List (Str × Addr)) (fp : List Addr), DTs (X.blk s H scope (compEnvC scope cl C X.env) fp) Γ ifs tt)
    (hk : ∀ (s : Shared) (H : Hp) (C : Addr) (cl : List (Str × Addr)) (fp : List Addr), DE (X.blk s H scope (compEnvC scope cl C X.env) fp) Γ kx tk)
    (he : ∀ (s : Shared) (H : Hp) (C : Addr) (cl : List (Str × Addr)) (fp : List Addr), DE (X.blk s H scope (compEnvC scope cl C X.env) fp) Γ vx tv) (hvs : own.map (·.2) = vs := by rfl) (hc : X.calm = true := by rfl) (hs : ∀ x, foldedSetIterable iter X.env x = pure x := by intro _; rfl) :
    DS X Γ (.Assign [.Name y py] (.DictComp kx vx [⟨tg, iter, ifs, 0⟩] scope pos) spos) (sSet i (eDc ti g tt tk tv vs)) :=
  ⟨PS.wk (ps_setDc hc hN hy hyl hsw hi.p ok (fun s H C cl fp => (hg s H C cl fp).p) (fun s H C cl fp => (ht s H C cl fp).p) (fun s H C cl fp => (hk s H C cl fp).p) (fun s H C cl fp => (he s H C cl fp).p) hs) fun E σ H ⟨R, ρ, n, fl, n', rp, e, q⟩ => by
    obtain ⟨d, m, e1, e⟩ := Mb_some e
    cases e
    rw [hvs]
    refine dc_up rp e1 fun Z us R' H' rp' g' hZ hnO h0 hZ' hR' hl ⟨rs, er, f⟩ => ?_
    subst er
    by_cases hio : i ∈ Γ.ow
    · exact q R' H' _ (rp'.setO hio hZ' hR' h0 (.dk hl f) fun j e hj _ he => hnO j e hj he) g'.same
    · exact q _ H' _ ((rp'.freeze hZ' hR' h0 hnO).set hio (.dk (.inl upd_same) hl (f.mono (same_new hR' _).le))) (g'.freeze hZ hR').same⟩
end
end Sh

set_option Elab.async false
set_option linter.all false
set_option maxRecDepth 100000
/-! defs that give a list or dict of their own -/
namespace Sh
open PySem L2 Nf
def spO (c : Cn) (W : Wd) (f : List D → M D) : Sp := fun vs H Q _ => ∃ R ds r n n', FzA c R vs ds ∧ HpOk ⟨c, W, [], H, R⟩ R H n ∧ f ds n = some (r, n') ∧ ∀ a o R' H', HpOk ⟨c, W, [], H, R⟩ R' H' n' → H a = none → H' a = some o → R' a = none → FzO c R' o r → Q (.ref a) H'
theorem spO_M {P : Program} {w : World} {K : PySem.W.Frag} {mg : Str → Option Value} {base : Heap} {k : Nat} {f : Addr} {fd : FuncData} {ps : List Str} {c : Cn} {W : Wd} {g : List D → M D} (F : FnOk P w K mg base CX0 k f fd ps (spO c W g)) : FnOk P w K mg base CX0 k f fd ps (spM c W g) :=
  F.imp fun vs H Q E ⟨R, ds, r, n, n', f, hp, e, q⟩ => ⟨R, ds, r, n, n', f, hp, e, fun a o R' H' hp' ha ha' hR fo => q _ _ H' (hp'.freeze ha' hR ha) ((fo.mono (same_new hR o).le).fz upd_same)⟩
section
variable {X : Cx} {Γ : Gm}
def KxO (Γ : Gm) (E : Ends) (n' : Nat) (d : D) : Prop := ∀ a o R' H', HpOk Γ R' H' n' → Γ.H0 a = none → H' a = some o → R' a = none → FzO Γ.c R' o d → E.rt (.ref a) H'
def upSO (Γ : Gm) (t : Sd → M D) : TS := fun E σ H => ∃ R ρ n d n', Rp Γ R H σ ρ n ∧ t ρ n = some (d, n') ∧ KxO Γ E n' d
structure DBO (X : Cx) (Γ : Gm) (s : List Stmt) (t : Sd → M D) : Prop where
  p : PSs X s (upSO Γ t)
theorem dbo_ret {e : Expr} {t : Ed} {pos : Pos} (h : DO X Γ.o e t) : DBO X Γ [.Return (some e) pos] t := ⟨PSs.wk (pss_one (ps_ret h.p)) fun E σ H ⟨R, ρ, n, d, n', rp, e, q⟩ =>
  ⟨_, ρ, n, d, n', rp.opn, e, fun a o R' H' rp' g' ha ha' hR h0 hn f => q a o R' H' rp'.hp.c h0 ha' hR f⟩⟩
def bSeqO (t : Bd) (u : Sd → M D) : Sd → M D := fun ρ => Mb (t ρ) fun fl => match fl with
  | .next ρ' => u ρ'
  | _ => fun _ => none
theorem dbo_cons {st : Stmt} {rest : List Stmt} {t : Bd} {u : Sd → M D} (h1 : DS X Γ st t) (h2 : DBO X Γ rest u) : DBO X Γ (st :: rest) (bSeqO t u) := ⟨PSs.wk (pss_cons h1.p h2.p) fun E σ H ⟨R, ρ, n, d, n', rp, e, q⟩ => by
  obtain ⟨fl, m, e1, e2⟩ := Mb_some e
  refine ⟨R, ρ, n, fl, m, rp, e1, ?_⟩
  cases fl with
  | next ρ' => exact fun R1 H1 σ1 rp1 S1 => ⟨R1, ρ', m, d, n', rp1, e2, q⟩
  | ret d => cases e2
  | brk ρ' => cases e2
  | cont ρ' => cases e2⟩
def fnO (k j : Nat) (t : Sd → M D) : List D → M D := fun ds n => if ds.length = k then t (ds.map some ++ List.replicate (j - ds.length) none) n else none
theorem fnO_e {k j n m : Nat} {t : Sd → M D} {ds : List D} {d : D} (hl : ds.length = k) (h : t (ds.map some ++ List.replicate (j - ds.length) none) n = some (d, m)) : fnO k j t ds n = some (d, m) := by unfold fnO; rw [if_pos hl]; exact h
theorem bSeqO_n {t : Bd} {u : Sd → M D} {ρ ρ' : Sd} {n m : Nat} (h : t ρ n = some (.next ρ', m)) : bSeqO t u ρ n = u ρ' m := by unfold bSeqO Mb; rw [h]
theorem fn_okO {P : Program} {w : World} {K : PySem.W.Frag} {mg : Str → Option Value} {base : Heap} {x qual : Str} {params : Arguments} {body : List Stmt} {scope : Scope} {dvs : List V} {kws : List (Str × V)} {fa : Addr} {fd : FuncData} {N ps : List Str} {k : Nat} {c : Cn} {W : Wd} {t : Sd → M D} (ow : List Nat)
    (F : FunD K x qual params body scope dvs kws fa fd) (S : FnScope N ps scope) (how : ow.all (fun i => ps.length ≤ i) = true)
    (hb : ∀ (cdv : Value) (A : Around) (outer : List Env) (s : Shared) (H : Hp) (E : XK) (R : Hp), Room k (A.deeper (PyProof.Rows.envOfC qual scope s.heap.objs.size fa cdv)) → DBO (cxOf CX0 P w K mg base N qual scope fa cdv A outer s H E).nox ⟨c, W, ow, H, R⟩ body t) :
    FnOk P w K mg base CX0 (k + 1) fa fd ps (spO c W (fnO ps.length N.length t)) := by
  refine F.ok S (fun vs H Q E h => ?_) (fun cdv A outer s H vs Q E hr h => ?_)
  · obtain ⟨R, ds, r, n, n', f, _, e, _⟩ := h
    rw [f.len]; exact (ite_some e).1
  · obtain ⟨R, ds, r, n, n', f, hp, e, q⟩ := h
    obtain ⟨hl, e⟩ := ite_some e
    refine ⟨_, PSs.nox (hb cdv A outer s H E R hr).p, ?_⟩
    have rp := rp_start (c := c) (W := W) (ow := ow) (N := N) (fun i hi => by
      have := List.all_eq_true.mp how i hi
      rw [f.len, hl]; exact of_decide_eq_true this) f hp
    exact ⟨R, _, n, r, n', rp, e, fun a o R' H' k h0 ha hR fo => q a o R' H' ⟨k.same, k.dj, k.d0, k.wd, k.keep, k.r0, k.new⟩ h0 ha hR fo⟩
section
variable {k : Nat} {fa : Addr} {fd : FuncData} {ps : List Str} {f : List D → M D} {x : Str} {p pos : Pos} {e a : Expr} {es : List Expr} {t : Ad} {ta : Ed}
theorem do_call (F : FnOk X.prog X.w X.K X.mg X.base CX0 k fa fd ps (spO Γ.c Γ.W f)) (hr : Room k X.A) (hg : Gl X x) (hm : X.mg x = some (.ref fa)) (hk : PySem.W.keepIn X.K (.ref fa) = true) (hb : Binds X.K fd ps []) (ha : DA X Γ (e :: es) t)
    (he : starEach (e :: es) X.env = (false, eval e X.env) :: starEach es X.env := by rfl) (hpl : (backTo pos (starEach es X.env)).any (·.1) = false := by rfl) (hdb : (x == ("__debug__" : Str)) = false := by decide) : DO X Γ (.Call (.Name x p) (e :: es) [] pos) (eCall f t) :=
  ⟨PE.wk (pe_call F hr hg hm hk hb .nil pass0 ha.p hdb he hpl) fun σ H Q ⟨R, ρ, n, r, n', rp, e, q⟩ => by
    obtain ⟨ds, m, e1, e⟩ := Mb_some e
    refine ⟨R, ρ, n, ds, m, rp, e1, fun vs R1 H1 rp1 g1 z1 => ?_⟩
    show spO Γ.c Γ.W f (vs ++ []) H1 Q _
    rw [List.append_nil]
    exact ⟨R1, ds, r, m, n', z1, rp1.hp.enter, e, fun a o R2 H2 k ha ha' hR fo => q a o R2 H2 (rp1.then k) (g1.trans (HpOk.go k)) (g1.nn a ha) ha' hR (rp1.hp.nn ha) (rp1.noO ha) fo⟩⟩
theorem do_rev {kk : Nat} {p1 p2 p3 : Pos} (ha : DE X Γ a ta) (hK : X.K = Γ.c.K := by rfl) : DO X Γ (.Subscript a (.Slice none none (some (.UnaryOp .USub (.Constant (.int 1) kk p1) p2)) p3) pos) (e1 fRev ta) :=
  ⟨PE.wk (pe_revL ha.p) fun σ H Q ⟨R, ρ, n, r, n', rp, e, q⟩ => by
    obtain ⟨x, m, e1, e⟩ := Mb_some e
    obtain ⟨ee, rfl⟩ := Mo_some e
    refine ⟨R, ρ, n, x, _, rp, e1, fun v R1 H1 rp1 S1 z1 => ?_⟩
    cases z1 with
    | lst hh lh f =>
      cases ee
      exact ⟨_, _, rfl, SqL.of (rp1.hp.same _ _ hh), fun p hp => q p _ R1 _ (rp1.lay0 hp) (S1.lay0 hp) (S1.nn p hp) upd_same (rp1.hp.same.free hp) (rp1.hp.nn hp) (rp1.noO hp) (.lst (by rw [List.length_reverse]; exact lh) f.rev)⟩
    | _ => cases ee⟩
end
end
end Sh

set_option Elab.async false
set_option linter.all false
set_option maxRecDepth 100000
set_option maxHeartbeats 2000000
/-! a caught exception kept beyond its clause -/
namespace L2
open PySem PySem.Spec PyProof.Rows
/-- an exception object, tracked -/
def XO (cls : Value) (d : Option Addr) (a : Addr) : HO := .ext fun h => ∃ (oe : Obj) (vs : Array Value), h.get? a = some oe ∧ Zc cls d oe ∧ oe.data = .fields vs
theorem xo_ok {P : Program} {w : World} {H : Hp} {h : Heap} {a : Addr} {cls : Value} {d : Option Addr} {oe : Obj} {vs : Array Value} (e : h.get? a = some oe) (z : Zc cls d oe) (q : oe.data = .fields vs) : ObjOk P w H h a (XO cls d a) :=
  ⟨⟨oe, vs, e, z, q⟩, ⟨oe, e⟩, fun _ _ ⟨o, v, q, r⟩ k => ⟨o, v, k o q, r⟩⟩
theorem xo_at {P : Program} {w : World} {H : Hp} {h : Heap} {a : Addr} {cls : Value} {d : Option Addr} (k : HOk P w H h) (e : H a = some (XO cls d a)) : ∃ (oe : Obj) (vs : Array Value), h.get? a = some oe ∧ Zc cls d oe ∧ oe.data = .fields vs := (k a _ e).1
section
variable {X : Cx} {pins : List (Addr × Obj)} {σ : St} {H : Hp} {s : Shared}
/-- an object that stands in the heap, younger than the frame, gets tracked -/
theorem Inv.track {a : Addr} {o : HO} {oe : Obj} {vs : Array Value} (I : Inv X pins σ H s) (hn : H a = none) (h0 : X.s_0.heap.get? a = none) (he : s.heap.get? a = some oe) (hd : oe.data = .fields vs) (hL : a ≠ X.env.locals) (hp : ∀ p ∈ X.pn ++ pins, p.1 ≠ a)
    (new : ObjOk X.prog X.w (upd H a o) s.heap a o) : Inv X pins σ (upd H a o) s := by
  have B := I.base
  refine ⟨I.ok, I.os, I.bare, ⟨B.keep, B.slot, fun b u q n m => ?_, B.there, fun b xs q => ?_, fun b u v q => ?_, fun b ps q => ?_⟩, I.loc, I.cell, ?_, fun x c e => ?_, fun p m => ?_, I.hok.laidN (fun _ _ z => z) hn new, I.len⟩
  · have : b ≠ a := fun z => by rw [z, h0] at q; cases q
    rw [upd_ne this]; exact B.free b u q n m
  · have z := B.tups b xs q
    rw [upd_ne (ne_of_none z hn)]; exact z
  · have z := B.frzs b u v q
    rw [upd_ne (ne_of_none z hn)]; exact z
  · obtain ⟨m, z⟩ := B.tbls b ps q
    exact ⟨m, by rw [upd_ne (ne_of_none z hn)]; exact z⟩
  · rw [upd_ne (Ne.symm hL)]; exact I.free
  · have : c ≠ a := fun z => by
      obtain ⟨v, o', h1, h2⟩ := I.cell x c e
      rw [z, he] at h1; cases h1
      rw [hd] at h2; cases h2
    rw [upd_ne this]; exact I.freeC x c e
  · obtain ⟨h1, h2, h3, h4, h5⟩ := I.pin p m
    exact ⟨h1, by rw [upd_ne (hp p m)]; exact h2, h3, h4, h5⟩
end
/-- what the clause wishes: behind its suite the exception stays, tracked -/
def wKeep (K : PySem.W.Frag) (c : Value) (i : Nat) (ts : Addr → Value → Option Addr → TS) (Wout : WX) (D : Ends) : WX := fun cls d σ H =>
  ∃ b, PySem.W.exmOne K cls c = some b ∧ (b = false → Wout cls d σ H) ∧ (b = true → ∀ a, H a = none → ts a cls d ⟨fun σ' H' => D.nx (σ'.set i none) (upd H' a (XO cls d a)), fun _ _ => False, fun _ _ => False, fun _ _ => False⟩ (σ.set i (some (.ref a))) H)
section
variable {X : Cx} {x n : Str} {c : Value} {i : Nat} {body suite : List Stmt} {b₀ : Stmt} {np pos pos' : Pos} {tb : WX → TS} {ts : Addr → Value → Option Addr → TS} {Wout : WX}
theorem ps_try_keep (hs : X.stack = X.env :: X.outer) (hf : X.env.frame = some X.env.locals) (hN : X.N.Nodup) (hi : X.N[i]? = some n) (hln : X.env.kindOf n = some .local) (hx : X.ex = []) (hc : Names X x c) (tk : Takes X Wout)
    (hb : ∀ (W : WX) (pn : List (Addr × Obj)) (xe : Value → Shared → Prop), Takes (X.tr pn xe) W → PSs (X.tr pn xe) body (tb W))
    (hsu : ∀ (a : Addr) (oe : Obj) (cls : Value) (d : Option Addr) (pn : List (Addr × Obj)), Zc cls d oe → PSs (X.suite a ((a, oe) :: pn)) (b₀ :: suite) (ts a cls d)) :
    PS X (.Try body [.ExceptHandler (some (.Name x np)) (some n) (b₀ :: suite) pos'] [] [] pos) (fun D σ H => tb (wKeep X.K c i ts Wout D) D σ H) := by
  refine ⟨fun pins s σ H D I q => wpAny_Try_except ?_⟩
  have okX := I.ok
  have frm : X.A.frames = some (X.env :: X.outer) := by rw [okX.frames, hs]
  refine wpAny_mono ((hb (wKeep X.K c i ts Wout D) (X.pn ++ pins) _ fun u s' air => ?_).run [] s σ H D (I.toTry _) q) (fun fl s1 out => ?_) (fun e s1 z => z)
  · obtain ⟨a, G, s2, pins2, σ2, H2, cls, d, rfl, I2, ground, upTo, sky, na, sameOs, bareG, b, isB, out, in_⟩ := air
    have J2 : Inv X pins σ2 H2 s2 := I2.ofTry okX
    rw [show (X.tr (X.pn ++ pins) _).stack = X.env :: X.outer from hs] at sky
    show wpAny (model X.prog X.w) X.A (noteFrame (.ref a) X.env) _ _ _
    refine Sky.land Zc.steady frm hf sky fun h3 fly3 up3 => ?_
    have J3 : Inv X pins σ2 H2 { s' with heap := h3 } := J2.landed ground fly3.1 (upTo.trans up3) sameOs bareG
    obtain ⟨o3, v3, get3, z3, dat3⟩ := fly3.there
    have notF : a ∉ frs (X.env :: X.outer) := fun m => by
      obtain ⟨_, o', e', bad⟩ := fly3.2.2.1.mem m
      rw [get3] at e'; cases e'
      exact bad _ dat3
    have notL : a ≠ X.env.locals := fun z => notF (List.mem_filterMap.mpr ⟨X.env, List.mem_cons_self, by rw [hf, z]⟩)
    have notX : a ∉ X.fs := fun m => by
      obtain ⟨e, he, q⟩ := List.mem_filterMap.mp m
      exact notF (List.mem_filterMap.mpr ⟨e, List.mem_cons_of_mem _ he, q⟩)
    have old2 : s2.heap.get? a = none := by
      cases e : s2.heap.get? a with
      | none => rfl
      | some o =>
        have := ground a o e (by rw [show (X.tr (X.pn ++ pins) _).stack = X.env :: X.outer from hs]; exact notF)
        rw [fly3.2.1] at this; cases this
    have old0 : X.s_0.heap.get? a = none := by
      cases e : X.s_0.heap.get? a with
      | none => rfl
      | some o =>
        obtain ⟨o', e'⟩ := J2.base.there a o e (by rw [hx]; exact fun z => nomatch z)
        rw [old2] at e'; cases e'
    have noPin : ∀ p ∈ X.pn ++ pins, p.1 ≠ a := fun p m z => by
      have := (J2.pin p m).1
      rw [z, old2] at this; cases this
    have K3 := J3.suite get3 dat3 na notL notX
    refine wpAny_handleBy_cons (codeAny_handlers_test ?_) (by intro q; cases q)
    have isCls : PySem.W.Looks (model X.prog X.w) h3 (typeOf (.ref a)) cls := fun A Q E s k q => wpAny_typeOf_ref (k _ _ get3) (by rw [z3.1]; exact q)
    have asks := PySem.W.exm_one (M := model X.prog X.w) (J3.kIn) isCls isB
    have named : ∀ {Q : Value → Shared → Prop} {E : Value → Shared → Prop}, Q c { s' with heap := h3 } → wpAny (model X.prog X.w) (X.A.mark (some (.ref a))) (eval (.Name x np) X.env) Q E { s' with heap := h3 } := fun {Q E} q => by
      obtain ⟨g, dbg, m | ⟨m, v, nn⟩⟩ := hc
      · exact ld_glob (X := X.suite a ((a, o3) :: (X.pn ++ pins))) K3 g m q dbg
      · exact ld_blt (X := X.suite a ((a, o3) :: (X.pn ++ pins))) K3 g m v q nn dbg
    refine named (asks.here ?_)
    cases b with
    | false =>
      show wpAny _ X.A (handleBy (.ref a) X.env []) _ _ _
      refine wpAny_handleBy_nil ?_
      have fin : wpAny (model X.prog X.w) X.A (setFlight (.ref a) X.env.frame) (fun _ s4 => wpAny (model X.prog X.w) X.A (throw (.ref a) : Sem Flow) (SP X pins D) X.xe s4) X.xe { s' with heap := h3 } := by
        rw [hf]
        refine HandSPX.setFlight_upZ fly3 fun h4 held4 up4 => wpAny_throw (tk _ _ ?_)
        exact ⟨a, G, s2, pins, σ2, H2, cls, d, rfl, J2, (by rw [hs]; rw [show (X.tr (X.pn ++ pins) _).stack = X.env :: X.outer from hs] at ground; exact ground), (upTo.trans up3).trans up4, .inr (.inr (by rw [hs]; exact held4)), na, sameOs, bareG, out rfl⟩
      obtain ⟨k1, k2, k3, oe, vs, T, oT, ts', he, hz, hd, h1, hr⟩ := id fly3
      unfold PySem.passOn
      refine wpAny_bind (wpAny_field he hd h1 ?_)
      rw [if_neg (show ¬ ((Value.ref T == Value.none) = true) from by simp)]
      first
        | exact wpAny_bind (wpAny_pure (wpAny_bind fin))
        | exact wpAny_bind fin
    | true =>
      refine codeAny_handlers_suite_as (HandSPX.lands_againZ fly3 fun h4 fly4 up4 => ?_)
      have J4 : Inv X pins σ2 H2 { s' with heap := h4 } := J2.landed ground fly4.1 ((upTo.trans up3).trans up4) sameOs bareG
      obtain ⟨o4, v4, get4, z4, dat4⟩ := fly4.there
      refine store_ok (X := X.suite a ((a, o4) :: (X.pn ++ pins))) (v := .ref a) (J4.suite get4 dat4 na notL notX) hN hi (.inl hln) rfl (fun s5 I5 => ?_) (.inr hln)
      refine wpAny_mono ((hsu a o4 cls d (X.pn ++ pins) z4).run [] s5 _ H2 _ I5 (in_ rfl a na)) (fun fl s6 out6 => ?_) (fun _ _ z => False.elim z)
      cases fl with
      | next =>
        obtain ⟨σ6, H6, I6, q6⟩ := out6
        obtain ⟨get6, no6, _⟩ := I6.pin (a, o4) (List.mem_append_left _ List.mem_cons_self)
        have J6 := (I6.unsuite okX).track no6 old0 get6 dat4 notL noPin (xo_ok get6 z4 dat4)
        exact gone_ok J6 hN hi hln fun s7 J7 => ⟨_, _, J7, q6⟩
      | brk => obtain ⟨_, _, _, z⟩ := out6; exact z.elim
      | cont => obtain ⟨_, _, _, z⟩ := out6; exact z.elim
      | ret u => obtain ⟨_, _, _, _, _, z⟩ := out6; exact z.elim
  · cases fl with
    | next =>
      obtain ⟨σ1, H1, J1, q1⟩ := out
      exact wpAny_execs_nil ⟨σ1, H1, J1.ofTry okX, q1⟩
    | brk =>
      obtain ⟨σ1, H1, J1, q1⟩ := out
      exact ⟨σ1, H1, J1.ofTry okX, q1⟩
    | cont =>
      obtain ⟨σ1, H1, J1, q1⟩ := out
      exact ⟨σ1, H1, J1.ofTry okX, q1⟩
    | ret u =>
      obtain ⟨v, σ1, H1, J1, r1, q1⟩ := out
      exact ⟨v, σ1, H1, J1.ofTry okX, r1, q1⟩
end
end L2

set_option Elab.async false
set_option linter.all false
set_option maxRecDepth 100000
set_option maxHeartbeats 2000000
/-! a kept exception looked at; d.update(e) -/
namespace L2
open PySem PySem.Spec PyProof.Rows
section
variable {X : Cx}
def rIsX (K : PySem.W.Frag) : List V → Hp → VK → Prop := fun xs H Q => ∃ (a C : Addr) (d : Option Addr) (c : V) (cv : Value) (b : Bool), xs = [.ref a, c] ∧ H a = some (XO (.ref C) d a) ∧ (∃ dd fs, d = some dd ∧ H dd = some (.xd fs)) ∧ ExcC K C ∧ (∀ u, RelV c u → u = cv) ∧ PySem.W.kitOne K (.ref C) cv = some b ∧ Q (.bl b) H
theorem clsIn_of {K : PySem.W.Frag} {C : Addr} (h : PySem.W.hasDictIn K C = true) : (PySem.W.clsIn K C).isSome = true := by
  unfold PySem.W.hasDictIn at h
  cases e : PySem.W.clsIn K C with
  | some _ => rfl
  | none => rw [e] at h; cases h
theorem call_isX : CallR X (.builtin "isinstance") (rIsX X.K) := by
  intro pins s σ H xs us Q I r h
  obtain ⟨a, C, d, c, cv, b, rfl, ha, ⟨dd, fs, rfl, hd⟩, E, hcv, eb, q⟩ := h
  cases r with
  | cons rx rr =>
    cases rr with
    | cons rt rr =>
      cases rr
      cases rx
      obtain rfl := hcv _ rt
      obtain ⟨oe, vs, get, z, dat⟩ := xo_at I.hok ha
      obtain ⟨mA, hns, _⟩ := (show ObjOk X.prog X.w H s.heap dd (.xd fs) from I.hok dd _ hd)
      obtain ⟨od, ho, hl⟩ := lookIn_ns hns
      have J : PySem.W.InstAt s.heap a oe C (some od) := ⟨get, z.1, by unfold PySem.W.notCls; rw [dat] <;> rfl, by rw [z.2]; exact ho⟩
      exact PySem.W.kia_one (PySem.W.kitx_exc (clsIn_of E.hd) E.hg E.hk E.hs E.ha E.hn E.ht E.hm) I.kIn J eb (fun z => nomatch z) fun tk => ⟨.bl b, H, I.kept (t' := tk) fun _ _ z => z, rfl, q⟩
def tXfO (K : PySem.W.Frag) (n : Str) (te : TE) : TE := fun σ H Q => te σ H fun x H1 => ∃ (a C dd : Addr) (fs : List (Str × V)) (v : V), x = .ref a ∧ H1 a = some (XO (.ref C) (some dd) a) ∧ H1 dd = some (.xd fs) ∧ XfC K C ∧ PySem.W.findIn K (.ref C) n = some none ∧ fs.lookup n = some v ∧ Q v H1
theorem pe_xfO {e : Expr} {te : TE} {pos : Pos} {n : Str} (he : PE X e te) (hb : attributeBase e n X.env (eval e X.env) = eval e X.env := by rfl) : PE X (.Attribute e n pos) (tXfO X.K n te) := by
  refine ⟨fun pins s σ H Q I h => attr_of hb (thn (he.run pins s σ H _ I h) fun u s1 hh => ?_)⟩
  obtain ⟨x, H1, I1, rx, a, C, dd, fs, v, rfl, ha, hd, T, no, l, q⟩ := hh
  obtain rfl : u = Value.ref a := rx
  obtain ⟨oe, vs, get, z, dat⟩ := xo_at I1.hok ha
  obtain ⟨mA, hns, hr⟩ := (show ObjOk X.prog X.w H1 s1.heap dd (.xd fs) from I1.hok dd _ hd)
  obtain ⟨od, ho, hl⟩ := lookIn_ns hns
  obtain ⟨w, hw, rw'⟩ := RelO.some_of (v := v) (o := mA n) (by rw [← l]; exact hr n)
  have J : PySem.W.InstAt s1.heap a oe C (some od) := ⟨get, z.1, by unfold PySem.W.notCls; rw [dat] <;> rfl, by rw [z.2]; exact ho⟩
  exact HandSPX.exc_get I1.kIn J T.ga T.gg T.exC (PySem.W.findObj_own T.hdC no rfl (by rw [hl, hw])) (handed_of rw') ⟨v, H1, I1.tok _, rw', q⟩
def rUpd : V → List V → Hp → VK → Prop := fun x vs H Q => ∃ (a b : Addr) (kvs more : List (Key × V)), x = .ref a ∧ vs = [.ref b] ∧ a ≠ b ∧ H a = some (.dK kvs) ∧ H b = some (.dK more) ∧ kvs.length + more.length ≤ sizeLine ∧ Q .non (upd H a (.dK (mergeK kvs more)))
theorem mt_update : MtR X "dict.update" rUpd := by
  intro pins s σ H x vs v us Q I rx rv h
  obtain ⟨a, b, kvs, more, rfl, rfl, ne, ha, hb, hz, q⟩ := h
  cases rx
  obtain ⟨u, rfl, ru⟩ := rv.one
  cases ru
  obtain ⟨z1, hs1, vs1, rel1, d1⟩ := dk_of I.hok ha
  obtain ⟨z2, hs2, vs2, rel2, d2⟩ := dk_of I.hok hb
  refine call_meetsIn PySem.F.slot_dict_update d1.typeIs PySem.F.entry_dict_update (PySem.F.args_dict_update_2 _ _) (meets_dict_update (mixKind X.prog X.w) a b ne hs2) ⟨vs1, vs2, d1, d2, by rw [← rel1.length, ← rel2.length]; exact hz, fun h' dd' _ sb => ?_⟩
  have he : ∃ q, h'.get? a = some q := let ⟨q, _, _, hq, _⟩ := dd'; ⟨q, hq⟩
  exact ⟨.non, _, d_write (t' := s.toks) I (by rw [ha]; exact True.intro) sb he (dk_new (Nat.le_trans (length_mergeK _ _) hz) hs1 (rel2.merge rel1) dd'), rfl, q⟩
end
end L2

set_option Elab.async false
set_option linter.all false
set_option maxRecDepth 100000
/-! classes of errors, read off the written part -/
namespace L2
open PySem PySem.Spec PyProof.Rows
def oexM (C : Addr) : List Value → List (Option Value) → Bool
  | .ref C' :: bm, [_, _, _, _, some (.builtin n), _] => decide (C' = C) && (decide (n = "ValueError.__new__") && PySem.HandSPX.refsVE bm)
  | _, _ => false
theorem oexM_ok {C : Addr} {m : List Value} {sl : List (Option Value)} (h : oexM C m sl = true) : ∃ bm k0 k1 k2 k3 k5, m = .ref C :: bm ∧ sl = [k0, k1, k2, k3, some (.builtin "ValueError.__new__"), k5] ∧ PySem.HandSPX.refsVE bm = true := by
  unfold oexM at h
  split at h
  · obtain ⟨h1, h2⟩ := Bool.and_eq_true_iff.mp h
    obtain ⟨h3, h4⟩ := Bool.and_eq_true_iff.mp h2
    rw [of_decide_eq_true h1, of_decide_eq_true h3]
    exact ⟨_, _, _, _, _, _, rfl, rfl, h4⟩
  · cases h
def oexL (C : Addr) : Option Obj → Bool
  | some ⟨.type t, _, .cls cd, sl⟩ => decide (t = "type") && (!cd.hasDel && (cd.hasDict && oexM C cd.mro sl.toList))
  | _ => false
theorem oexL_ok {K : PySem.W.Frag} {C : Addr} (h : oexL C (K.lookup C) = true) : ∃ nm q N bs bm sn sub ab col dd k0 k1 k2 k3 k5, K.lookup C = some (excClassObj nm q C N bs bm true sn sub ab col dd k0 k1 k2 k3 k5 "ValueError.__new__") ∧ PySem.HandSPX.refsVE bm = true := by
  unfold oexL at h
  split at h
  · rename_i t dd cd sl e
    obtain ⟨h1, h2⟩ := Bool.and_eq_true_iff.mp h
    obtain ⟨h3, h4⟩ := Bool.and_eq_true_iff.mp h2
    obtain ⟨h5, h6⟩ := Bool.and_eq_true_iff.mp h4
    obtain ⟨bm, k0, k1, k2, k3, k5, em, es, hb⟩ := oexM_ok h6
    obtain ⟨nm, bs, mro, N, q, hdct, sn, sub, ab, col, hdel⟩ := cd
    have e1 := of_decide_eq_true h1
    simp only at h3 h5 em
    subst e1 em h5
    have e3 : hdel = false := by simpa using h3
    subst e3
    refine ⟨nm, q, N, bs, bm, sn, sub, ab, col, dd, k0, k1, k2, k3, k5, ?_, hb⟩
    rw [e]
    have : sl = #[k0, k1, k2, k3, some (.builtin "ValueError.__new__"), k5] := by
      apply Array.toList_inj.mp
      rw [es]
    rw [this]
  · cases h
def oexB (K : PySem.W.Frag) (C : Addr) : Bool := oexL C (K.lookup C) && (He.eqO (PySem.W.findIn K (.ref C) "__setattr__") (some (some (.builtin "object.__setattr__"))) && (decide (PySem.W.subIn K (.ref C) (.type "BaseException") = some true) && (decide (PySem.W.typeIn K (.ref C) = some (.type "type")) && PySem.W.keepIn K (.ref C))))
theorem oexB_ok {K : PySem.W.Frag} {C : Addr} (h : oexB K C = true) : OexC K C := by
  obtain ⟨h1, h⟩ := Bool.and_eq_true_iff.mp h
  obtain ⟨h2, h⟩ := Bool.and_eq_true_iff.mp h
  obtain ⟨h3, h⟩ := Bool.and_eq_true_iff.mp h
  obtain ⟨h4, h5⟩ := Bool.and_eq_true_iff.mp h
  exact ⟨oexL_ok h1, He.eqO_ok h2, of_decide_eq_true h3, of_decide_eq_true h4, h5⟩
def excB (K : PySem.W.Frag) (C : Addr) : Bool := He.eqO (PySem.W.findIn K (.ref C) "__getattribute__") (some (some (.builtin "BaseException.__getattribute__"))) && (He.eqO (PySem.W.findIn K (.ref C) "__getattr__") (some none) && (decide (PySem.W.subIn K (.ref C) (.type "BaseException") = some true) && (PySem.W.hasDictIn K C &&
  (He.eqO (PySem.W.findIn K (.ref C) "__class__") (some (some (.builtin "object.__class__"))) && (He.eqO (PySem.W.specialIn K (.builtin "object.__class__") "__get__") (some (some (.builtin "getset_descriptor.__get__"))) && (decide (PySem.W.takesIn K (.builtin "object.__class__") = some true) && decide (PySem.W.mroIn K C (.type "object") = some true)))))))
theorem excB_ok {K : PySem.W.Frag} {C : Addr} (h : excB K C = true) : ExcC K C := by
  obtain ⟨h1, h⟩ := Bool.and_eq_true_iff.mp h
  obtain ⟨h2, h⟩ := Bool.and_eq_true_iff.mp h
  obtain ⟨h3, h⟩ := Bool.and_eq_true_iff.mp h
  obtain ⟨h4, h⟩ := Bool.and_eq_true_iff.mp h
  obtain ⟨h5, h⟩ := Bool.and_eq_true_iff.mp h
  obtain ⟨h6, h⟩ := Bool.and_eq_true_iff.mp h
  obtain ⟨h7, h8⟩ := Bool.and_eq_true_iff.mp h
  exact ⟨He.eqO_ok h1, He.eqO_ok h2, of_decide_eq_true h3, h4, He.eqO_ok h5, He.eqO_ok h6, of_decide_eq_true h7, of_decide_eq_true h8⟩
end L2

set_option Elab.async false
set_option linter.all false
set_option maxRecDepth 100000
/-! a comprehension over an empty dict -/
namespace Sh
open PySem L2 Nf
def fK0 : D → Option D
  | .dk [] [] => some (.lst [])
  | _ => none
theorem pe_fl {X : Cx} {e : Expr} : PE X e fun _ _ _ => False := ⟨fun pins s σ H Q I q => q.elim⟩
theorem pg_fl {X : Cx} {e : Expr} : PG X e fun _ _ _ _ => False := ⟨fun pins s σ H v u Q I r q => q.elim⟩
theorem pts_fl {X : Cx} {es : List Expr} : PTs X es fun _ _ _ => False := ⟨fun pins s σ H Q I q => q.elim⟩
section
variable {X : Cx} {Γ : Gm}
theorem d_lcK0 {i : Nat} {elt tg iter : Expr} {ifs : List Expr} {scope : Scope} {own : List (Str × Nat)} {pos : Pos} (hN : X.N.Nodup) (hv : PE X iter (tVar i)) (ok : BlkOk X.N X.env.scope scope own) (hi' : Γ.ow.contains i = false := by rfl) (hc : X.calm = true := by rfl) (hs : ∀ x, foldedSetIterable iter X.env x = pure x := by intro _; rfl) :
    DE X Γ (.ListComp elt [⟨tg, iter, ifs, 0⟩] scope pos) (e1 fK0 (eVar i)) := by
  have hi := nmem_of hi'
  have A : PE X (.ListComp elt [⟨tg, iter, ifs, 0⟩] scope pos) (tLc (iKeys (tVar i)) (fun _ _ _ _ => False) (fun _ _ _ => False) (fun _ _ _ => False) (own.map (·.2))) := pe_lc hc hN (pi_keys hv) ok (fun _ _ _ _ _ => pg_fl) (fun _ _ _ _ _ => pts_fl) (fun _ _ _ _ _ => pe_fl) hs
  refine ⟨PE.wk (PE.or (pe_lock A) A) fun σ H Q ⟨R, ρ, n, r, n', rp, e, q⟩ => ?_⟩
  obtain ⟨d, m, e1, e2⟩ := Mb_some e
  obtain ⟨e3, rfl⟩ := Mo_some e2
  obtain ⟨e4, rfl⟩ := eVar_some e1
  obtain ⟨v, h1, h2⟩ := rp.fz i d hi e4
  cases h2 with
  | @dk a kvs ds hr hz f =>
    cases kvs with
    | cons _ _ => cases ds <;> cases e3
    | nil =>
      cases f
      cases e3
      rcases hr with hr | ⟨o, hr⟩
      · have hH := rp.hp.same _ _ hr
        refine .inl ⟨a, .dK [], hH, True.intro, fun od => ⟨_, h1, a, od, rfl, .inl ⟨[], upd_same, fun Z hZ => ?_⟩⟩⟩
        have ne : Z ≠ a := fun z => by subst z; rw [upd_same] at hZ; cases hZ
        have hZ' : H Z = none := by rw [upd_ne ne] at hZ; exact hZ
        refine lc_it (g := fun _ _ _ _ => False) (tt := fun _ _ _ => False) (te := fun _ _ _ => False) (vs := own.map (·.2)) (σ := σ) (walk_keys (kvs := [])) (fun _ H' => H' = upd (upd H a (.frz od (.dK []))) Z (.lst [])) rfl ?_ (fun i x H1 H2 hi => absurd hi (Nat.not_lt_zero i)) ?_
        · rintro i H' _ rfl
          rw [upd_ne (Ne.symm ne)]; exact upd_same
        · rintro H' rfl
          refine ⟨by rw [upd_ne (Ne.symm ne)]; exact upd_same, ?_⟩
          have eq : upd (upd (upd H a (.frz od (.dK []))) Z (.lst [])) a (.dK []) = upd H Z (.lst []) := by
            funext b
            by_cases hb : b = a
            · subst hb; rw [upd_same, upd_ne (Ne.symm ne)]; exact hH.symm
            · rw [upd_ne hb]
              by_cases hb2 : b = Z
              · subst hb2; rw [upd_same, upd_same]
              · rw [upd_ne hb2, upd_ne hb2, upd_ne hb]
          rw [eq]
          exact q _ _ _ (rp.lay hZ') (rp.go hZ') (.lst upd_same (Nat.zero_le _) .nil)
      · have hH := rp.hp.same _ _ hr
        refine .inr ⟨_, h1, a, o, rfl, .inl ⟨[], hH, fun Z hZ => ?_⟩⟩
        refine lc_it (g := fun _ _ _ _ => False) (tt := fun _ _ _ => False) (te := fun _ _ _ => False) (vs := own.map (·.2)) (σ := σ) (walk_keys (kvs := [])) (fun _ H' => H' = upd H Z (.lst [])) rfl ?_ (fun i x H1 H2 hi => absurd hi (Nat.not_lt_zero i)) ?_
        · rintro i H' _ rfl
          rw [upd_ne (ne_of_none hH hZ)]; exact hH
        · rintro H' rfl
          exact q _ _ _ (rp.lay hZ) (rp.go hZ) (.lst upd_same (Nat.zero_le _) .nil)
  | _ => cases e3
end
end Sh

set_option Elab.async false
set_option linter.all false
set_option maxRecDepth 100000
/-! a, b, c = a list -/
namespace Sh
open PySem PySem.Spec PyProof.Rows L2
section
variable {prog : Program} {w : World} {A : Around} {E : Value → Shared → Prop}
theorem drawn_lst {it l : Addr} {vs : Array Value} (ne : l ≠ it) : ∀ (k i : Nat) (s : Shared) (Q : List Value → Shared → Prop), s.heap.IsListIter it l i → s.heap.IsList l vs → i + k ≤ vs.size →
    (∀ g, g.IsListIter it l (i + k) → Heap.SameBut it s.heap g → Q ((vs.toList.drop i).take k) { s with heap := g }) → wpAny (model prog w) A (draw (.ref it) k) Q E s
  | 0, i, s, Q, a, _, _, q => by
    show wpAny (model prog w) A (pure ([] : List Value)) Q E s
    refine wpAny_pure ?_
    simpa using q s.heap a (Heap.SameBut.refl ..)
  | k + 1, i, s, Q, a, b, le, q => by
    have lt : i < vs.size := by omega
    unfold draw
    refine wpAny_bind (wpAny_pyNext_list_item a b (x := vs[i]) (by simp [lt]) fun g1 a1 s1 => ?_)
    refine wpAny_bind (wpAny_holding (drawn_lst ne k (i + 1) _ _ a1 (b.extBut s1.extBut ne) (by omega) fun g2 a2 s2 => wpAny_pure ?_))
    have z := q g2 (by rw [show i + (k + 1) = i + 1 + k by omega]; exact a2) (s1.trans s2)
    rwa [List.drop_eq_getElem_cons (by simpa using lt), List.take_succ_cons] at z
theorem unpacked_lst {s : Shared} {l : Addr} {vs : Array Value} {Q : List Value → Shared → Prop} (hh : A.handled = none) (b : s.heap.IsList l vs)
    (q : ∀ g, Heap.ExtBut s.heap.objs.size s.heap g → Q vs.toList { s with heap := g }) : wpAny (model prog w) A (unpackItems (.ref l) vs.size none) Q E s := by
  have ne : l ≠ s.heap.objs.size := by obtain ⟨o, ho, _⟩ := b; exact Nat.ne_of_lt (Heap.lt_size ho)
  have all : (vs.toList.drop 0).take vs.size = vs.toList := by rw [List.drop_zero]; exact List.take_of_length_le (by simp)
  unfold unpackItems notIterableAtAll
  refine wpAny_bind (wpAny_bind (wpAny_specialOf b.typeIs slot_list_iter.lookup (wpAny_pure ?_)))
  rw [if_neg (by decide)]
  refine wpAny_bind (wpAny_holding (wpAny_pyIter_list b ?_))
  refine wpAny_bind (wpAny_holding (drawn_lst ne vs.size 0 _ _ ⟨_, Heap.get?_push_size _ rfl, rfl, rfl⟩ (b.push _) (by omega) fun g1 a1 s1 => ?_))
  rw [all, if_neg (by simp)]
  have b1 : g1.IsList l vs := (b.push _).extBut s1.extBut ne
  refine wpAny_bind (wpAny_holding (wpAny_pyNext_list_end hh a1 b1 (by simp) fun g2 e2 => ?_))
  rw [if_neg (by simp)]
  exact wpAny_pure (q g2 fun c o hc e => e2 c o hc (s1.extBut c o hc (Heap.get?_push_of_some _ e)))
end
def gLst (K : PySem.W.Frag) (n : Nat) (t : TGs) : TG := fun v σ H Q => ∃ a xs, v = .ref a ∧ SqL K H a xs ∧ xs.length = n ∧ t xs σ H Q
theorem pg_lst {X : Cx} {es : List Expr} {k : Nat} {t : TGs} {n : Nat} {pos : Pos} (hc : X.calm = true) (h : PGs X es t) (hn : (assignEach es X.env).length = n := by rfl) (hst : (assignEach es X.env).findIdx? (·.1) = none := by rfl) : PG X (.Tuple es k pos) (gLst X.K n t) := by
  refine ⟨fun pins s σ H v u Q I r hw => ?_⟩
  obtain ⟨a, xs, rfl, hq, hl, hw⟩ := hw
  cases r
  obtain ⟨its, rv, p, hz⟩ := I.list hq
  rw [assign_Tuple]
  refine wpAny_bind (wpAny_standAt ?_)
  unfold unpack
  have e1 : (assignEach es X.env).length = its.toArray.size := by rw [hn, ← hl, rv.length]; simp
  rw [e1, hst]
  refine wpAny_bind (wpAny_holding (unpacked_lst (I.ok.hd hc) p.isList fun g hx => ?_))
  have I1 : Inv X pins σ H { s with heap := g } := I.kept (t' := s.toks) fun b o e => hx b o (Nat.ne_of_lt (Heap.lt_size e)) e
  exact h.run pins _ σ H xs _ Q I1 (by simpa using rv) hw
end Sh

set_option Elab.async false
set_option linter.all false
set_option maxRecDepth 100000
/-! unfinished things -/
namespace Sh
open PySem L2 Nf
inductive U where
  | name (x : Str) | skip | made (w : Str) (ps : List U)
mutual
def U.d : U → D
  | .name x => .tup [.str "name", .str x]
  | .skip => .tup [.str "skip"]
  | .made w ps => .tup [.str "made", .str w, .tup (U.dA ps)]
def U.dA : List U → List D
  | [] => []
  | u :: r => U.d u :: U.dA r
end
theorem U.dA_map : ∀ ps : List U, U.dA ps = ps.map U.d
  | [] => rfl
  | u :: r => by simp only [U.dA, List.map_cons, U.dA_map r]
theorem U.d_made (w : Str) (ps : List U) : (U.made w ps).d = .tup [.str "made", .str w, .tup (ps.map U.d)] := by simp only [U.d, U.dA_map]
theorem U.d_name (x : Str) : (U.name x).d = .tup [.str "name", .str x] := by simp only [U.d]
theorem U.d_skip : U.skip.d = .tup [.str "skip"] := by simp only [U.d]
def U.hd : U → Str
  | .name _ => "name"
  | .skip => "skip"
  | .made _ _ => "made"
abbrev okS (x : Str) : Prop := PyData.strOk x = true
def U.ok : Nat → U → Prop
  | 0, _ => False
  | _ + 1, .name x => okS x
  | _ + 1, .skip => True
  | n + 1, .made w ps => okS w ∧ ps.length ≤ 3 ∧ ∀ p ∈ ps, U.ok n p
theorem U.ok_mono : ∀ {n m : Nat} {u : U}, n ≤ m → U.ok n u → U.ok m u
  | 0, _, _, _, h => h.elim
  | n + 1, 0, _, hn, _ => by omega
  | n + 1, m + 1, .name x, _, h => h
  | n + 1, m + 1, .skip, _, h => h
  | n + 1, m + 1, .made w ps, hn, h => ⟨h.1, h.2.1, fun p hp => U.ok_mono (by omega) (h.2.2 p hp)⟩
/-! laid as Python's data -/
mutual
def U.p : U → PyData
  | .name x => .tuple [.str "name", .str x]
  | .skip => .tuple [.str "skip"]
  | .made w ps => .tuple [.str "made", .str w, .tuple (U.pA ps)]
def U.pA : List U → List PyData
  | [] => []
  | u :: r => U.p u :: U.pA r
end
mutual
theorem U.py : ∀ u : U, u.d.py = some u.p
  | .name x => rfl
  | .skip => rfl
  | .made w ps => by
    simp only [U.d, D.py, D.pyA, U.pyA ps, U.p, Option.map_some]
theorem U.pyA : ∀ ps : List U, D.pyA (U.dA ps) = some (U.pA ps)
  | [] => rfl
  | u :: r => by simp only [U.dA, D.pyA, U.py u, U.pyA r, U.pA]
end
theorem lit_ok : okS "name" ∧ okS "skip" ∧ okS "made" := by decide +kernel
theorem U.lay : ∀ {n : Nat} {u : U}, U.ok n u → u.p.canLay0 = true ∧ u.p.depth ≤ 2 * n
  | 0, _, h => h.elim
  | n + 1, .name x, h => by
    have hx : PyData.strOk x = true := h
    have := lit_ok.1
    simp only [U.p, PyData.canLay0, PyData.canLayAll0, PyData.depth, PyData.depthAll, this, hx]
    exact ⟨rfl, by omega⟩
  | n + 1, .skip, _ => by
    have := lit_ok.2.1
    simp only [U.p, PyData.canLay0, PyData.canLayAll0, PyData.depth, PyData.depthAll, this]
    exact ⟨rfl, by omega⟩
  | n + 1, .made w ps, h => by
    have hw : PyData.strOk w = true := h.1
    have key : ∀ qs : List U, (∀ p ∈ qs, U.ok n p) → PyData.canLayAll0 (U.pA qs) = true ∧ PyData.depthAll (U.pA qs) ≤ 2 * n := by
      intro qs
      induction qs with
      | nil => intro _; simp [U.pA, PyData.canLayAll0, PyData.depthAll]
      | cons q r ih =>
        intro hq
        obtain ⟨a1, a2⟩ := U.lay (hq q (by simp))
        obtain ⟨b1, b2⟩ := ih fun p hp => hq p (by simp [hp])
        simp only [U.pA, PyData.canLayAll0, PyData.depthAll, a1, b1]
        exact ⟨rfl, by omega⟩
    obtain ⟨c1, c2⟩ := key ps h.2.2
    have := lit_ok.2.2
    simp only [U.p, PyData.canLay0, PyData.canLayAll0, PyData.depth, PyData.depthAll, this, hw, c1]
    exact ⟨rfl, by omega⟩
theorem U.shaped {n : Nat} {u : U} (h : U.ok n u) (hn : n ≤ 32) : SeqAt.shaped u.p = true := by
  obtain ⟨a, b⟩ := U.lay h
  unfold SeqAt.shaped
  rw [a, decide_eq_true (by omega)]
  rfl
/-- a name and another thing -/
def U.isNm (x : Str) : U → Bool
  | .name y => decide (x = y)
  | _ => false
def U.isSk : U → Bool
  | .skip => true
  | _ => false
theorem eqb_tup {x y : List D} {p q : PyData} (h1 : (D.tup x).py = some p) (h2 : (D.tup y).py = some q) (s1 : SeqAt.shaped p = true) (s2 : SeqAt.shaped q = true) : D.eqb (.tup x) (.tup y) = some (PyData.eqv p q) := by
  have e : D.eqb (.tup x) (.tup y) = (match (D.tup x).py, (D.tup y).py with
    | some p, some q => if SeqAt.shaped p = true ∧ SeqAt.shaped q = true then some (PyData.eqv p q) else none
    | _, _ => none) := rfl
  rw [e, h1, h2]
  show (if SeqAt.shaped p = true ∧ SeqAt.shaped q = true then some (PyData.eqv p q) else none) = _
  rw [if_pos ⟨s1, s2⟩]
theorem U.d_tup (u : U) : ∃ ds, u.d = .tup ds := by cases u <;> simp only [U.d] <;> exact ⟨_, rfl⟩
theorem U.eqb {n : Nat} {u v : U} (h : U.ok n u) (k : U.ok n v) (hn : n ≤ 32) : D.eqb u.d v.d = some (PyData.eqv u.p v.p) := by
  obtain ⟨x, hx⟩ := u.d_tup
  obtain ⟨y, hy⟩ := v.d_tup
  have e1 := u.py
  have e2 := v.py
  rw [hx] at e1 ⊢
  rw [hy] at e2 ⊢
  exact eqb_tup e1 e2 (U.shaped h hn) (U.shaped k hn)
theorem nm_eqv (x : Str) (v : U) : PyData.eqv (U.name x).p v.p = U.isNm x v := by
  cases v with
  | name y =>
    simp only [U.p, PyData.eqv, PyData.eqvAll, U.isNm, Bool.and_true, beq_self_eq_true, Bool.true_and]
    exact Bool.beq_eq_decide_eq x y
  | skip => simp [U.p, PyData.eqv, PyData.eqvAll, U.isNm]
  | made w ps => simp [U.p, PyData.eqv, PyData.eqvAll, U.isNm]
theorem sk_eqv (v : U) : PyData.eqv v.p U.skip.p = U.isSk v := by
  cases v with
  | name y => simp [U.p, PyData.eqv, PyData.eqvAll, U.isSk]
  | skip => simp [U.p, PyData.eqv, PyData.eqvAll, U.isSk]
  | made w ps => simp [U.p, PyData.eqv, PyData.eqvAll, U.isSk]
theorem U.ix0 (u : U) : fIx u.d (.int 0) = some (.str u.hd) := by cases u <;> simp only [U.d] <;> rfl
theorem ix_made1 (w : Str) (ps : List U) : fIx (U.made w ps).d (.int 1) = some (.str w) := by simp only [U.d]; rfl
theorem ix_made2 (w : Str) (ps : List U) : fIx (U.made w ps).d (.int 2) = some (.tup (ps.map U.d)) := by rw [U.d_made]; rfl
/-! the verdict -/
mutual
def vf : U → U → Option Bool × Nat
  | .name x, v => (if U.isNm x v = true then some true else none, 0)
  | .made w ps, .made w' qs => if w = w' then (let r := vfA ps qs; (r.1, 1 + r.2)) else (some false, 1)
  | _, _ => (none, 0)
def vfA : List U → List U → Option Bool × Nat
  | p :: ps, q :: qs => match vf p q with
    | (some true, k) => (let r := vfA ps qs; (r.1, k + r.2))
    | o => o
  | _, _ => (some true, 0)
end
def vS : List (U × U) → Option Bool × Nat
  | [] => (some true, 0)
  | p :: r => match vf p.1 p.2 with
    | (some true, k) => (let s := vS r; (s.1, k + s.2))
    | o => o
theorem vfA_zip : ∀ (ps qs : List U), vfA ps qs = vS (ps.zip qs)
  | [], _ => by simp [vfA, vS]
  | _ :: _, [] => by simp [vfA, vS]
  | p :: ps, q :: qs => by
    rw [List.zip_cons_cons]
    simp only [vfA, vS]
    rw [vfA_zip ps qs]
theorem vS_app : ∀ (a b : List (U × U)), vS (a ++ b) = match vS a with
    | (some true, k) => ((vS b).1, k + (vS b).2)
    | o => o
  | [], b => by simp [vS]
  | p :: r, b => by
    simp only [List.cons_append, vS]
    rw [vS_app r b]
    rcases vf p.1 p.2 with ⟨o, k⟩
    match o with
    | none => rfl
    | some false => rfl
    | some true =>
      dsimp only
      rcases vS r with ⟨o2, k2⟩
      match o2 with
      | none => rfl
      | some false => rfl
      | some true => simp [Nat.add_assoc]
def vd : Option Bool → D
  | none => .non
  | some true => .tup [.str "made", .str "yes", .tup []]
  | some false => .tup [.str "made", .str "no", .tup []]
def prD (p : U × U) : D := .tup [p.1.d, p.2.d]
/-! how many nodes -/
mutual
def U.sz : U → Nat
  | .name _ => 1
  | .skip => 1
  | .made _ ps => 1 + U.szA ps
def U.szA : List U → Nat
  | [] => 0
  | u :: r => U.sz u + U.szA r
end
theorem U.sz_pos (u : U) : 0 < u.sz := by cases u <;> simp only [U.sz] <;> omega
theorem U.sz_le : ∀ {n : Nat} {u : U}, U.ok n u → u.sz ≤ 4 ^ n
  | 0, _, h => h.elim
  | n + 1, .name x, _ => by simp only [U.sz]; exact Nat.pow_pos (by decide)
  | n + 1, .skip, _ => by simp only [U.sz]; exact Nat.pow_pos (by decide)
  | n + 1, .made w ps, h => by
    have key : ∀ qs : List U, (∀ p ∈ qs, U.ok n p) → U.szA qs ≤ qs.length * 4 ^ n := by
      intro qs
      induction qs with
      | nil => intro _; simp [U.szA]
      | cons q r ih =>
        intro hq
        have h1 := U.sz_le (hq q (by simp))
        have h2 := ih fun p hp => hq p (by simp [hp])
        simp only [U.szA, List.length_cons, Nat.succ_mul]
        omega
    have h1 := key ps h.2.2
    have h2 : ps.length * 4 ^ n ≤ 3 * 4 ^ n := Nat.mul_le_mul_right _ h.2.1
    have h4 : 0 < 4 ^ n := Nat.pow_pos (by decide)
    simp only [U.sz]
    rw [Nat.pow_succ]
    omega
def ssz (st : List (U × U)) : Nat := (st.map fun q => q.1.sz).sum
theorem ssz_zip : ∀ (ps qs : List U), ssz (ps.zip qs) ≤ U.szA ps
  | [], _ => by simp [ssz]
  | _ :: _, [] => by simp [ssz]
  | p :: ps, q :: qs => by
    have := ssz_zip ps qs
    simp only [ssz, List.zip_cons_cons, List.map_cons, List.sum_cons, U.szA] at this ⊢
    omega
theorem ssz_app (a b : List (U × U)) : ssz (a ++ b) = ssz a + ssz b := by simp [ssz]
theorem ssz_cons (a : U × U) (b : List (U × U)) : ssz (a :: b) = a.1.sz + ssz b := by simp [ssz]
theorem ssz_len : ∀ a : List (U × U), a.length ≤ ssz a
  | [] => Nat.zero_le _
  | p :: r => by
    have := ssz_len r
    have := p.1.sz_pos
    rw [ssz_cons, List.length_cons]
    omega
theorem prs_map (ps qs : List U) : prs (ps.map U.d) (qs.map U.d) = (ps.zip qs).map prD := by
  unfold prs
  rw [List.zip_map, List.map_map]
  rfl
/-! mades -/
mutual
def U.mds : U → Option Nat
  | .skip => none
  | .name _ => some 0
  | .made _ ps => (U.mdsA ps).map (1 + ·)
def U.mdsA : List U → Option Nat
  | [] => some 0
  | u :: r => match U.mds u, U.mdsA r with
    | some a, some b => some (a + b)
    | _, _ => none
end
mutual
theorem vf_self : ∀ (u : U) (k : Nat), u.mds = some k → vf u u = (some true, k)
  | .name x, k, h => by
    simp only [U.mds] at h
    cases h
    simp [vf, U.isNm]
  | .skip, k, h => by simp [U.mds] at h
  | .made w ps, k, h => by
    simp only [U.mds] at h
    obtain ⟨j, hj, rfl⟩ := Option.map_eq_some_iff.mp h
    simp only [vf, if_true, vfA_self ps j hj]
theorem vfA_self : ∀ (ps : List U) (k : Nat), U.mdsA ps = some k → vfA ps ps = (some true, k)
  | [], k, h => by simp only [U.mdsA] at h; cases h; simp [vfA]
  | u :: r, k, h => by
    simp only [U.mdsA] at h
    split at h
    · rename_i a b ha hb
      cases h
      simp only [vfA, vf_self u a ha, vfA_self r b hb]
    · cases h
end
end Sh

set_option Elab.async false
set_option linter.all false
set_option maxRecDepth 100000
namespace Sh
open PySem L2 Nf
def top (i : Nat) : Stmt := PySem.Challenge.pw_needfill_k11_kinds_of_nothing.main.body.getD i (.Pass ⟨0, 0, 0, 0⟩)
abbrev FnP (K : PySem.W.Frag) (x : Str) (st : Stmt) (f : Addr) (fd : FuncData) : Prop := FunD K x x (defArgs st) (defBody st) (defScope st) [] [] f fd
/-- a def that stands where it is called -/
structure Cal (K : PySem.W.Frag) (mg : Str → Option Value) (x : Str) (st : Stmt) (ps : List Str) (f : Addr) (fd : FuncData) : Prop where
  F : FnP K x st f fd
  m : mg x = some (.ref f)
  b : Binds K fd ps []
/-- the built-ins' names are free -/
structure Bt (mg : Str → Option Value) : Prop where
  t_len : mg "len" = none
  t_abs : mg "abs" = none
  t_range : mg "range" = none
  t_zip : mg "zip" = none
  t_isinstance : mg "isinstance" = none
  t_all : mg "all" = none
  t_tuple : mg "tuple" = none
  t_str : mg "str" = none
  t_int : mg "int" = none
  t_bool : mg "bool" = none
  t_enumerate : mg "enumerate" = none
  t_list : mg "list" = none
  t_dict : mg "dict" = none
  t_any : mg "any" = none
  t_sum : mg "sum" = none
  t_max : mg "max" = none
  t_min : mg "min" = none
end Sh


set_option Elab.async false
set_option linter.all false
set_option maxRecDepth 100000
set_option maxHeartbeats 0
/-! what the module is when it is run to its end: in pieces, early in the one file, where memory is still low -/
namespace Sh
open PySem L2 Nf
def clsBody (s : Stmt) : List Stmt := match s with
  | .ClassDef _ _ _ b _ _ _ _ _ _ _ => b
  | _ => []
def erN : List Str := ["BadProgram", "BadNames", "BadSaying", "NoTable", "TooWide", "BadTurns", "NoMore", "Cut", "NoText", "NoRow", "FillError"]
abbrev aBP (K : PySem.W.Frag) : Addr := He.ga K "BadProgram"
abbrev h_are_among : Stmt := top 59
abbrev h_are_kind_names : Stmt := top 40
abbrev h_are_kinds : Stmt := top 90
abbrev h_below : Stmt := top 53
abbrev h_bpi : Stmt := (clsBody (top 2)).getD 0 (.Pass ⟨0, 0, 0, 0⟩)
abbrev h_counted : Stmt := top 99
abbrev h_deck : Stmt := top 79
abbrev h_drawn_kinds : Stmt := top 105
abbrev h_empty_kind : Stmt := top 64
abbrev h_first : Stmt := top 102
abbrev h_first_wrong_place : Stmt := top 58
abbrev h_formed : Stmt := top 93
abbrev h_function : Stmt := top 106
abbrev h_function_formed : Stmt := top 92
abbrev h_has_new : Stmt := top 87
abbrev h_has_overused_name : Stmt := top 68
abbrev h_head : Stmt := top 95
abbrev h_is : Stmt := top 84
abbrev h_is_function_form : Stmt := top 44
abbrev h_is_kind : Stmt := top 89
abbrev h_is_kind_form : Stmt := top 42
abbrev h_is_kind_name : Stmt := top 39
abbrev h_is_maker_form : Stmt := top 41
abbrev h_is_new : Stmt := top 83
abbrev h_is_new_name : Stmt := top 21
abbrev h_is_node : Stmt := top 22
abbrev h_is_program_form : Stmt := top 45
abbrev h_is_right : Stmt := top 51
abbrev h_is_row : Stmt := top 36
abbrev h_is_rule_form : Stmt := top 43
abbrev h_is_sized : Stmt := top 37
abbrev h_is_text_of : Stmt := top 19
abbrev h_is_there : Stmt := top 86
abbrev h_is_word : Stmt := top 20
abbrev h_is_written : Stmt := top 38
abbrev h_kind_formed : Stmt := top 91
abbrev h_kind_told : Stmt := top 50
abbrev h_kinds_there : Stmt := top 60
abbrev h_kinds_with_things : Stmt := top 63
abbrev h_l_is_row : Stmt := top 88
abbrev h_l_is_word : Stmt := top 82
abbrev h_l_wrong_rule : Stmt := top 100
abbrev h_law : Stmt := top 107
abbrev h_left_side : Stmt := top 55
abbrev h_made : Stmt := top 104
abbrev h_maker : Stmt := top 94
abbrev h_names_of : Stmt := top 25
abbrev h_next : Stmt := top 80
abbrev h_nodes_of : Stmt := top 24
abbrev h_parts_due : Stmt := top 52
abbrev h_parts_of : Stmt := top 23
abbrev h_pri : Stmt := (clsBody (top 77)).getD 0 (.Pass ⟨0, 0, 0, 0⟩)
abbrev h_refused : Stmt := top 103
abbrev h_repeated_kind : Stmt := top 61
abbrev h_same : Stmt := top 81
abbrev h_sign_of : Stmt := top 48
abbrev h_signs_of : Stmt := top 47
abbrev h_size : Stmt := top 85
abbrev h_told_by : Stmt := top 96
abbrev h_uses_sign : Stmt := top 49
abbrev h_wrong : Stmt := top 97
abbrev h_wrong_function : Stmt := top 65
abbrev h_wrong_kinds : Stmt := top 101
abbrev h_wrong_left : Stmt := top 98
abbrev h_wrong_maker : Stmt := top 62
abbrev h_wrong_path : Stmt := top 54
abbrev h_wrong_rule : Stmt := top 66
abbrev h_wrong_side : Stmt := top 67
def c0_FIGURES : D := (.str ("0123456789" : Str))
def c0_KEPT_WORDS : D := (.tup [(.str ("kind" : Str)), (.str ("def" : Str)), (.str ("either" : Str)), (.str ("same" : Str)), (.str ("truth" : Str))])
def c0_LETTERS : D := (.str ("abcdefghijklmnopqrstuvwxyz" : Str))
def c0_MOST_FIGURES : D := (.int 3)
def c0_MOST_FUNCTIONS : D := (.int 6)
def c0_MOST_KINDS : D := (.int 4)
def c0_MOST_LETTERS : D := (.int 8)
def c0_MOST_MAKERS : D := (.int 4)
def c0_MOST_NODES : D := (.int 40)
def c0_MOST_PARTS : D := (.int 3)
def c0_MOST_RULES : D := (.int 8)
def c0_MOST_USES : D := (.int 2)
def c0_PATTERN_DEPTH : D := (.int 4)
def c0_SAYING_DEPTH : D := (.int 8)
def c0_TRUTH : D := (.str ("truth" : Str))
def c0_TRUTH_MAKERS : D := (.tup [(.tup [(.str ("yes" : Str)), (.tup [])]), (.tup [(.str ("no" : Str)), (.tup [])])])
def dd_is_text_of : He.DefD := ⟨("is_text_of", none), "is_text_of", "is_text_of", defArgs h_is_text_of, defBody h_is_text_of, defScope h_is_text_of, [], []⟩
def dd_is_word : He.DefD := ⟨("is_word", none), "is_word", "is_word", defArgs h_is_word, defBody h_is_word, defScope h_is_word, [], []⟩
def dd_is_new_name : He.DefD := ⟨("is_new_name", none), "is_new_name", "is_new_name", defArgs h_is_new_name, defBody h_is_new_name, defScope h_is_new_name, [], []⟩
def dd_is_node : He.DefD := ⟨("is_node", none), "is_node", "is_node", defArgs h_is_node, defBody h_is_node, defScope h_is_node, [], []⟩
def dd_parts_of : He.DefD := ⟨("parts_of", none), "parts_of", "parts_of", defArgs h_parts_of, defBody h_parts_of, defScope h_parts_of, [], []⟩
def dd_nodes_of : He.DefD := ⟨("nodes_of", none), "nodes_of", "nodes_of", defArgs h_nodes_of, defBody h_nodes_of, defScope h_nodes_of, [], []⟩
def dd_names_of : He.DefD := ⟨("names_of", none), "names_of", "names_of", defArgs h_names_of, defBody h_names_of, defScope h_names_of, [], []⟩
def dd_is_row : He.DefD := ⟨("is_row", none), "is_row", "is_row", defArgs h_is_row, defBody h_is_row, defScope h_is_row, [], []⟩
def dd_is_sized : He.DefD := ⟨("is_sized", none), "is_sized", "is_sized", defArgs h_is_sized, defBody h_is_sized, defScope h_is_sized, [], []⟩
def dd_is_written : He.DefD := ⟨("is_written", none), "is_written", "is_written", defArgs h_is_written, defBody h_is_written, defScope h_is_written, [], []⟩
def dd_is_kind_name : He.DefD := ⟨("is_kind_name", none), "is_kind_name", "is_kind_name", defArgs h_is_kind_name, defBody h_is_kind_name, defScope h_is_kind_name, [], []⟩
def dd_are_kind_names : He.DefD := ⟨("are_kind_names", none), "are_kind_names", "are_kind_names", defArgs h_are_kind_names, defBody h_are_kind_names, defScope h_are_kind_names, [], []⟩
def dd_is_maker_form : He.DefD := ⟨("is_maker_form", none), "is_maker_form", "is_maker_form", defArgs h_is_maker_form, defBody h_is_maker_form, defScope h_is_maker_form, [], []⟩
def dd_is_kind_form : He.DefD := ⟨("is_kind_form", none), "is_kind_form", "is_kind_form", defArgs h_is_kind_form, defBody h_is_kind_form, defScope h_is_kind_form, [], []⟩
def dd_is_rule_form : He.DefD := ⟨("is_rule_form", none), "is_rule_form", "is_rule_form", defArgs h_is_rule_form, defBody h_is_rule_form, defScope h_is_rule_form, [], []⟩
def dd_is_function_form : He.DefD := ⟨("is_function_form", none), "is_function_form", "is_function_form", defArgs h_is_function_form, defBody h_is_function_form, defScope h_is_function_form, [], []⟩
def dd_is_program_form : He.DefD := ⟨("is_program_form", none), "is_program_form", "is_program_form", defArgs h_is_program_form, defBody h_is_program_form, defScope h_is_program_form, [], []⟩
def dd_signs_of : He.DefD := ⟨("signs_of", none), "signs_of", "signs_of", defArgs h_signs_of, defBody h_signs_of, defScope h_signs_of, [], []⟩
def dd_sign_of : He.DefD := ⟨("sign_of", none), "sign_of", "sign_of", defArgs h_sign_of, defBody h_sign_of, defScope h_sign_of, [], []⟩
def dd_uses_sign : He.DefD := ⟨("uses_sign", none), "uses_sign", "uses_sign", defArgs h_uses_sign, defBody h_uses_sign, defScope h_uses_sign, [], []⟩
def dd_kind_told : He.DefD := ⟨("kind_told", none), "kind_told", "kind_told", defArgs h_kind_told, defBody h_kind_told, defScope h_kind_told, [], []⟩
def dd_is_right : He.DefD := ⟨("is_right", none), "is_right", "is_right", defArgs h_is_right, defBody h_is_right, defScope h_is_right, [], []⟩
def dd_parts_due : He.DefD := ⟨("parts_due", none), "parts_due", "parts_due", defArgs h_parts_due, defBody h_parts_due, defScope h_parts_due, [], []⟩
def dd_below : He.DefD := ⟨("below", none), "below", "below", defArgs h_below, defBody h_below, defScope h_below, [], []⟩
def dd_wrong_path : He.DefD := ⟨("wrong_path", none), "wrong_path", "wrong_path", defArgs h_wrong_path, defBody h_wrong_path, defScope h_wrong_path, [], []⟩
def dd_left_side : He.DefD := ⟨("left_side", none), "left_side", "left_side", defArgs h_left_side, defBody h_left_side, defScope h_left_side, [], []⟩
def dd_are_among : He.DefD := ⟨("are_among", none), "are_among", "are_among", defArgs h_are_among, defBody h_are_among, defScope h_are_among, [], []⟩
def dd_kinds_there : He.DefD := ⟨("kinds_there", none), "kinds_there", "kinds_there", defArgs h_kinds_there, defBody h_kinds_there, defScope h_kinds_there, [], []⟩
def dd_repeated_kind : He.DefD := ⟨("repeated_kind", none), "repeated_kind", "repeated_kind", defArgs h_repeated_kind, defBody h_repeated_kind, defScope h_repeated_kind, [], []⟩
def dd_wrong_maker : He.DefD := ⟨("wrong_maker", none), "wrong_maker", "wrong_maker", defArgs h_wrong_maker, defBody h_wrong_maker, defScope h_wrong_maker, [], []⟩
def dd_kinds_with_things : He.DefD := ⟨("kinds_with_things", none), "kinds_with_things", "kinds_with_things", defArgs h_kinds_with_things, defBody h_kinds_with_things, defScope h_kinds_with_things, [], []⟩
def dd_empty_kind : He.DefD := ⟨("empty_kind", none), "empty_kind", "empty_kind", defArgs h_empty_kind, defBody h_empty_kind, defScope h_empty_kind, [], []⟩
def dd_wrong_function : He.DefD := ⟨("wrong_function", none), "wrong_function", "wrong_function", defArgs h_wrong_function, defBody h_wrong_function, defScope h_wrong_function, [], []⟩
def dd_has_overused_name : He.DefD := ⟨("has_overused_name", none), "has_overused_name", "has_overused_name", defArgs h_has_overused_name, defBody h_has_overused_name, defScope h_has_overused_name, [], []⟩
def dd_wrong_side : He.DefD := ⟨("wrong_side", none), "wrong_side", "wrong_side", defArgs h_wrong_side, defBody h_wrong_side, defScope h_wrong_side, [], []⟩
def dd_wrong_rule : He.DefD := ⟨("wrong_rule", none), "wrong_rule", "wrong_rule", defArgs h_wrong_rule, defBody h_wrong_rule, defScope h_wrong_rule, [], []⟩
def dd_first_wrong_place : He.DefD := ⟨("first_wrong_place", none), "first_wrong_place", "first_wrong_place", defArgs h_first_wrong_place, defBody h_first_wrong_place, defScope h_first_wrong_place, [], []⟩
def dd_same : He.DefD := ⟨("_law_same", none), "_law_same", "_law_same", defArgs h_same, defBody h_same, defScope h_same, [], []⟩
def dd_l_is_word : He.DefD := ⟨("_law_is_word", none), "_law_is_word", "_law_is_word", defArgs h_l_is_word, defBody h_l_is_word, defScope h_l_is_word, [], []⟩
def dd_is_new : He.DefD := ⟨("_law_is_new", none), "_law_is_new", "_law_is_new", defArgs h_is_new, defBody h_is_new, defScope h_is_new, [], []⟩
def dd_is : He.DefD := ⟨("_law_is", none), "_law_is", "_law_is", defArgs h_is, defBody h_is, defScope h_is, [], []⟩
def dd_size : He.DefD := ⟨("_law_size", none), "_law_size", "_law_size", defArgs h_size, defBody h_size, defScope h_size, [], []⟩
def dd_has_new : He.DefD := ⟨("_law_has_new", none), "_law_has_new", "_law_has_new", defArgs h_has_new, defBody h_has_new, defScope h_has_new, [], []⟩
def dd_is_there : He.DefD := ⟨("_law_is_there", none), "_law_is_there", "_law_is_there", defArgs h_is_there, defBody h_is_there, defScope h_is_there, [], []⟩
def dd_l_is_row : He.DefD := ⟨("_law_is_row", none), "_law_is_row", "_law_is_row", defArgs h_l_is_row, defBody h_l_is_row, defScope h_l_is_row, [], []⟩
def dd_is_kind : He.DefD := ⟨("_law_is_kind", none), "_law_is_kind", "_law_is_kind", defArgs h_is_kind, defBody h_is_kind, defScope h_is_kind, [], []⟩
def dd_are_kinds : He.DefD := ⟨("_law_are_kinds", none), "_law_are_kinds", "_law_are_kinds", defArgs h_are_kinds, defBody h_are_kinds, defScope h_are_kinds, [], []⟩
def dd_kind_formed : He.DefD := ⟨("_law_kind_formed", none), "_law_kind_formed", "_law_kind_formed", defArgs h_kind_formed, defBody h_kind_formed, defScope h_kind_formed, [], []⟩
def dd_function_formed : He.DefD := ⟨("_law_function_formed", none), "_law_function_formed", "_law_function_formed", defArgs h_function_formed, defBody h_function_formed, defScope h_function_formed, [], []⟩
def dd_formed : He.DefD := ⟨("_law_formed", none), "_law_formed", "_law_formed", defArgs h_formed, defBody h_formed, defScope h_formed, [], []⟩
def dd_maker : He.DefD := ⟨("_law_maker", none), "_law_maker", "_law_maker", defArgs h_maker, defBody h_maker, defScope h_maker, [], []⟩
def dd_head : He.DefD := ⟨("_law_head", none), "_law_head", "_law_head", defArgs h_head, defBody h_head, defScope h_head, [], []⟩
def dd_told_by : He.DefD := ⟨("_law_told_by", none), "_law_told_by", "_law_told_by", defArgs h_told_by, defBody h_told_by, defScope h_told_by, [], []⟩
def dd_wrong : He.DefD := ⟨("_law_wrong", none), "_law_wrong", "_law_wrong", defArgs h_wrong, defBody h_wrong, defScope h_wrong, [], []⟩
def dd_wrong_left : He.DefD := ⟨("_law_wrong_left", none), "_law_wrong_left", "_law_wrong_left", defArgs h_wrong_left, defBody h_wrong_left, defScope h_wrong_left, [], []⟩
def dd_counted : He.DefD := ⟨("_law_counted", none), "_law_counted", "_law_counted", defArgs h_counted, defBody h_counted, defScope h_counted, [], []⟩
def dd_l_wrong_rule : He.DefD := ⟨("_law_wrong_rule", none), "_law_wrong_rule", "_law_wrong_rule", defArgs h_l_wrong_rule, defBody h_l_wrong_rule, defScope h_l_wrong_rule, [], []⟩
def dd_wrong_kinds : He.DefD := ⟨("_law_wrong_kinds", none), "_law_wrong_kinds", "_law_wrong_kinds", defArgs h_wrong_kinds, defBody h_wrong_kinds, defScope h_wrong_kinds, [], []⟩
def dd_first : He.DefD := ⟨("_law_first", none), "_law_first", "_law_first", defArgs h_first, defBody h_first, defScope h_first, [], []⟩
def dd_drawn_kinds : He.DefD := ⟨("_law_drawn_kinds", none), "_law_drawn_kinds", "_law_drawn_kinds", defArgs h_drawn_kinds, defBody h_drawn_kinds, defScope h_drawn_kinds, [], []⟩
def dd_function : He.DefD := ⟨("_law_function", none), "_law_function", "_law_function", defArgs h_function, defBody h_function, defScope h_function, [], []⟩
def dd_next : He.DefD := ⟨("_law_next", none), "_law_next", "_law_next", defArgs h_next, defBody h_next, defScope h_next, [], []⟩
def dd_made : He.DefD := ⟨("_law_made", none), "_law_made", "_law_made", defArgs h_made, defBody h_made, defScope h_made, [], []⟩
def dd_deck : He.DefD := ⟨("_law_deck", none), "_law_deck", "_law_deck", defArgs h_deck, defBody h_deck, defScope h_deck, [], []⟩
def dd_law : He.DefD := ⟨("law", none), "law", "law", defArgs h_law, defBody h_law, defScope h_law, [], []⟩
def dd_refused : He.DefD := ⟨("_law_refused", none), "_law_refused", "_law_refused", defArgs h_refused, defBody h_refused, defScope h_refused, [], []⟩
def dd_pri : He.DefD := ⟨("Program", some "__init__"), "__init__", "Program.__init__", defArgs h_pri, defBody h_pri, defScope h_pri, [], []⟩
def dd_bpi : He.DefD := ⟨("BadProgram", some "__init__"), "__init__", "BadProgram.__init__", defArgs h_bpi, defBody h_bpi, defScope h_bpi, [], []⟩
def fns : List He.DefD := [dd_is_text_of, dd_is_word, dd_is_new_name, dd_is_node, dd_parts_of, dd_nodes_of, dd_names_of, dd_is_row, dd_is_sized, dd_is_written, dd_is_kind_name, dd_are_kind_names, dd_is_maker_form, dd_is_kind_form, dd_is_rule_form, dd_is_function_form, dd_is_program_form, dd_signs_of, dd_sign_of, dd_uses_sign, dd_kind_told, dd_is_right, dd_parts_due, dd_below, dd_wrong_path, dd_left_side, dd_are_among, dd_kinds_there, dd_repeated_kind, dd_wrong_maker, dd_kinds_with_things, dd_empty_kind, dd_wrong_function, dd_has_overused_name, dd_wrong_side, dd_wrong_rule, dd_first_wrong_place, dd_same, dd_l_is_word, dd_is_new, dd_is, dd_size, dd_has_new, dd_is_there, dd_l_is_row, dd_is_kind, dd_are_kinds, dd_kind_formed, dd_function_formed, dd_formed, dd_maker, dd_head, dd_told_by, dd_wrong, dd_wrong_left, dd_counted, dd_l_wrong_rule, dd_wrong_kinds, dd_first, dd_drawn_kinds, dd_function, dd_next, dd_made, dd_deck, dd_law, dd_refused, dd_pri, dd_bpi]
def fas : List He.Fa := [.glo "is_text_of", .glo "is_word", .glo "is_new_name", .glo "is_node", .glo "parts_of", .glo "nodes_of", .glo "names_of", .glo "is_row", .glo "is_sized", .glo "is_written", .glo "is_kind_name", .glo "are_kind_names", .glo "is_maker_form", .glo "is_kind_form", .glo "is_rule_form", .glo "is_function_form", .glo "is_program_form", .glo "signs_of", .glo "sign_of", .glo "uses_sign", .glo "kind_told", .glo "is_right", .glo "parts_due", .glo "below", .glo "wrong_path", .glo "left_side", .glo "are_among", .glo "kinds_there", .glo "repeated_kind", .glo "wrong_maker", .glo "kinds_with_things", .glo "empty_kind", .glo "wrong_function", .glo "has_overused_name", .glo "wrong_side", .glo "wrong_rule", .glo "first_wrong_place", .glo "_law_same", .glo "_law_is_word", .glo "_law_is_new", .glo "_law_is", .glo "_law_size", .glo "_law_has_new", .glo "_law_is_there", .glo "_law_is_row", .glo "_law_is_kind", .glo "_law_are_kinds", .glo "_law_kind_formed", .glo "_law_function_formed", .glo "_law_formed", .glo "_law_maker", .glo "_law_head", .glo "_law_told_by", .glo "_law_wrong", .glo "_law_wrong_left", .glo "_law_counted", .glo "_law_wrong_rule", .glo "_law_wrong_kinds", .glo "_law_first", .glo "_law_drawn_kinds", .glo "_law_function", .glo "_law_next", .glo "_law_made", .glo "_law_deck", .glo "law", .glo "_law_refused", .free "len", .free "abs", .free "range", .free "zip", .free "isinstance", .free "all", .free "tuple", .free "str", .free "int", .free "bool", .free "enumerate", .free "list", .free "dict", .free "any", .free "sum", .free "max", .free "min", .glo "BadProgram", .glo "BadNames", .glo "BadSaying", .glo "NoTable", .glo "TooWide", .glo "BadTurns", .glo "NoMore", .glo "Cut", .glo "NoText", .glo "NoRow", .glo "FillError", .free "ValueError", .glo "Program", .mkr "Program", .cls "Program", .noat "Program" "kinds", .noat "Program" "functions", .noat "BadProgram" "place", .meth "BadProgram" "__init__", .exm "BadProgram" "FillError" true]
def loose : List PySem.Str := [("is_text_of" : PySem.Str), ("is_word" : PySem.Str), ("is_new_name" : PySem.Str), ("is_node" : PySem.Str), ("parts_of" : PySem.Str), ("nodes_of" : PySem.Str), ("names_of" : PySem.Str), ("is_row" : PySem.Str), ("is_sized" : PySem.Str), ("is_written" : PySem.Str), ("is_kind_name" : PySem.Str), ("are_kind_names" : PySem.Str), ("is_maker_form" : PySem.Str), ("is_kind_form" : PySem.Str), ("is_rule_form" : PySem.Str), ("is_function_form" : PySem.Str), ("is_program_form" : PySem.Str), ("signs_of" : PySem.Str), ("sign_of" : PySem.Str), ("uses_sign" : PySem.Str), ("kind_told" : PySem.Str), ("is_right" : PySem.Str), ("parts_due" : PySem.Str), ("below" : PySem.Str), ("wrong_path" : PySem.Str), ("left_side" : PySem.Str), ("first_wrong_place" : PySem.Str), ("are_among" : PySem.Str), ("kinds_there" : PySem.Str), ("repeated_kind" : PySem.Str), ("wrong_maker" : PySem.Str), ("kinds_with_things" : PySem.Str), ("empty_kind" : PySem.Str), ("wrong_function" : PySem.Str), ("wrong_rule" : PySem.Str), ("wrong_side" : PySem.Str), ("has_overused_name" : PySem.Str), ("head_word" : PySem.Str), ("applied_text" : PySem.Str), ("written" : PySem.Str), ("kind_row" : PySem.Str), ("function_rows" : PySem.Str), ("program_rows" : PySem.Str), ("_law_deck" : PySem.Str), ("_law_next" : PySem.Str), ("_law_same" : PySem.Str), ("_law_is_word" : PySem.Str), ("_law_is_new" : PySem.Str), ("_law_is" : PySem.Str), ("_law_size" : PySem.Str), ("_law_is_there" : PySem.Str), ("_law_has_new" : PySem.Str), ("_law_is_row" : PySem.Str), ("_law_is_kind" : PySem.Str), ("_law_are_kinds" : PySem.Str), ("_law_kind_formed" : PySem.Str), ("_law_function_formed" : PySem.Str), ("_law_formed" : PySem.Str), ("_law_maker" : PySem.Str), ("_law_head" : PySem.Str), ("_law_told_by" : PySem.Str), ("_law_wrong" : PySem.Str), ("_law_wrong_left" : PySem.Str), ("_law_counted" : PySem.Str), ("_law_wrong_rule" : PySem.Str), ("_law_wrong_kinds" : PySem.Str), ("_law_first" : PySem.Str), ("_law_refused" : PySem.Str), ("_law_made" : PySem.Str), ("_law_drawn_kinds" : PySem.Str), ("_law_function" : PySem.Str), ("LETTERS" : PySem.Str), ("FIGURES" : PySem.Str), ("MOST_LETTERS" : PySem.Str), ("MOST_FIGURES" : PySem.Str), ("MOST_PARTS" : PySem.Str), ("KEPT_WORDS" : PySem.Str), ("TRUTH" : PySem.Str), ("TRUTH_MAKERS" : PySem.Str), ("MOST_KINDS" : PySem.Str), ("MOST_MAKERS" : PySem.Str), ("MOST_FUNCTIONS" : PySem.Str), ("MOST_RULES" : PySem.Str), ("MOST_NODES" : PySem.Str), ("SAYING_DEPTH" : PySem.Str), ("PATTERN_DEPTH" : PySem.Str), ("MOST_USES" : PySem.Str), ("FillError" : PySem.Str), ("BadProgram" : PySem.Str), ("BadNames" : PySem.Str), ("BadSaying" : PySem.Str), ("NoTable" : PySem.Str), ("TooWide" : PySem.Str), ("BadTurns" : PySem.Str), ("NoMore" : PySem.Str), ("Cut" : PySem.Str), ("NoText" : PySem.Str), ("NoRow" : PySem.Str), ("Program" : PySem.Str)]
def exB (K : PySem.W.Frag) : Bool := (gB K "KEPT_WORDS" c0_KEPT_WORDS && (gB K "MOST_LETTERS" c0_MOST_LETTERS && (gB K "LETTERS" c0_LETTERS && (gB K "MOST_FIGURES" c0_MOST_FIGURES && (gB K "FIGURES" c0_FIGURES && (gB K "MOST_PARTS" c0_MOST_PARTS && (gB K "MOST_NODES" c0_MOST_NODES && (gB K "TRUTH" c0_TRUTH && (gB K "MOST_MAKERS" c0_MOST_MAKERS && (gB K "SAYING_DEPTH" c0_SAYING_DEPTH && (gB K "PATTERN_DEPTH" c0_PATTERN_DEPTH && (gB K "MOST_RULES" c0_MOST_RULES && (gB K "MOST_FUNCTIONS" c0_MOST_FUNCTIONS && (gB K "MOST_KINDS" c0_MOST_KINDS && (gB K "TRUTH_MAKERS" c0_TRUTH_MAKERS && (gB K "MOST_USES" c0_MOST_USES &&  (excB K (aBP K) && (oexB K (aBP K) && (xfB K (aBP K) && ((erN.all fun x => decide (PySem.W.kitOne K (.ref (aBP K)) (.ref (He.ga K x)) = some (decide (x = "BadProgram") || decide (x = "FillError")))) && (decide (PySem.W.kitOne K (.ref (aBP K)) (.type "ValueError") = some true) && decide (PySem.W.typeIn K (.ref (He.ma K (aBP K) "__init__")) = some (.type "function")))))))))))))))))))))))
abbrev R : PySem.W.OpenRow := PySem.W.OpenLaw.row PySem.Challenge.rw_needfill_k11_kinds_of_nothing
abbrev hk : PySem.W.Hook := hookB 5 fas fns exB
def ob (s : PySem.W.SharedT) : AlB := obsB 5 fas fns exB (HandSHeadRun.getT s)
theorem ob_eq (s : PySem.W.SharedT) : ob s = hk.obs s.abs := obsB_eq (HandSHeadRun.getT_eq s)
theorem runA (w : World) (os : OsState) : Option.map (fun s => HandSHeadRun.looksF R.prog (PySem.W.boot_heap w.params) s.abs) (HandSHeadRun.endF (HandSHeadRun.stepQ (HandSHeadRun.denQ HandSHeadRun.tabQ) R.prog w) 6000 R.prog w os) = some true := by kernel_rfl
theorem runB (w : World) (os : OsState) : Option.map (fun s => HandSHeadRun.seenQ (PySem.W.view R.prog [107]) loose (importedModules R.prog.main.body) (fun s => PySem.W.xlAt (PySem.W.view R.prog [107]) [] s && PySem.W.recOk R.records s) s.abs) (HandSHeadRun.endF (HandSHeadRun.stepQ (HandSHeadRun.denQ HandSHeadRun.tabQ) R.prog w) 6000 R.prog w os) = some (PySem.W.openGood (PySem.W.view R.prog [107]) loose) := by kernel_rfl
theorem runC (w : World) (os : OsState) : Option.map (fun s => fas.all fun f => He.Fa.ok (He.frG (HandSHeadRun.getT s) (He.asD (HandSHeadRun.getT s) 5)) f) (HandSHeadRun.endF (HandSHeadRun.stepQ (HandSHeadRun.denQ HandSHeadRun.tabQ) R.prog w) 6000 R.prog w os) = some true := by kernel_rfl
theorem runD1 (w : World) (os : OsState) : Option.map (fun s => (fns.take 34).all fun d => He.DefD.ok (He.frG (HandSHeadRun.getT s) (He.asD (HandSHeadRun.getT s) 5)) d) (HandSHeadRun.endF (HandSHeadRun.stepQ (HandSHeadRun.denQ HandSHeadRun.tabQ) R.prog w) 6000 R.prog w os) = some true := by kernel_rfl
theorem runD2 (w : World) (os : OsState) : Option.map (fun s => (fns.drop 34).all fun d => He.DefD.ok (He.frG (HandSHeadRun.getT s) (He.asD (HandSHeadRun.getT s) 5)) d) (HandSHeadRun.endF (HandSHeadRun.stepQ (HandSHeadRun.denQ HandSHeadRun.tabQ) R.prog w) 6000 R.prog w os) = some true := by kernel_rfl
theorem all_two {α δ : Type} {x : Option α} {l : List δ} {p : α → δ → Bool} (k : Nat) (h1 : Option.map (fun s => (l.take k).all (p s)) x = some true) (h2 : Option.map (fun s => (l.drop k).all (p s)) x = some true) : Option.map (fun s => l.all (p s)) x = some true := by
  cases x with
  | none => cases h1
  | some s =>
    have h1 : (l.take k).all (p s) = true := Option.some.inj h1
    have h2 : (l.drop k).all (p s) = true := Option.some.inj h2
    have e : l.all (p s) = ((l.take k).all (p s) && (l.drop k).all (p s)) := by rw [← List.all_append, List.take_append_drop]
    show some (l.all (p s)) = _
    rw [e, h1, h2]; rfl
theorem runE (w : World) (os : OsState) : Option.map (fun s => List.map (fun d => He.fnW (He.frG (HandSHeadRun.getT s) (He.asD (HandSHeadRun.getT s) 5)) d.at_) fns) (HandSHeadRun.endF (HandSHeadRun.stepQ (HandSHeadRun.denQ HandSHeadRun.tabQ) R.prog w) 6000 R.prog w os) = some (List.map He.DefD.val fns) := by kernel_rfl
theorem runF (w : World) (os : OsState) : Option.map (fun s => exB (He.frG (HandSHeadRun.getT s) (He.asD (HandSHeadRun.getT s) 5))) (HandSHeadRun.endF (HandSHeadRun.stepQ (HandSHeadRun.denQ HandSHeadRun.tabQ) R.prog w) 6000 R.prog w os) = some true := by kernel_rfl
theorem run_of {α β γ : Type} {x : Option α} {f : α → Bool} {g : α → β} {v : β} {a b c : α → Bool} {m : α → γ} {u : γ} (hf : Option.map f x = some true) (hg : Option.map g x = some v) (ha : Option.map a x = some true) (hb : Option.map b x = some true) (hm : Option.map m x = some u) (hc : Option.map c x = some true) :
    Option.map (fun s => (f s, g s, (((a s && b s), m s), c s))) x = some (true, v, ((true, u), true)) := by
  cases x with
  | none => cases hf
  | some s =>
    have hf := Option.some.inj hf
    have hg := Option.some.inj hg
    have ha := Option.some.inj ha
    have hb := Option.some.inj hb
    have hm := Option.some.inj hm
    have hc := Option.some.inj hc
    show some (f s, g s, ((a s && b s, m s), c s)) = _
    rw [hf, hg, ha, hb, hm, hc]; rfl
theorem run (w : World) : HandSHeadRun.RunEq R (PySem.W.view R.prog [107]) hk ob 6000 loose w := fun os => run_of (runA w os) (runB w os) (runC w os) (all_two (p := fun s d => He.DefD.ok (He.frG (HandSHeadRun.getT s) (He.asD (HandSHeadRun.getT s) 5)) d) 34 (runD1 w os) (runD2 w os)) (runE w os) (runF w os)
end Sh


set_option Elab.async false
set_option linter.all false
set_option maxRecDepth 100000
namespace Sh
open PySem L2 Nf
variable {P : Program} {w : World} {K : PySem.W.Frag} {mg : Str → Option Value} {base : Heap} {dk : Addr} {W : Wd}
def k_TRUTH : D := (.str ("truth" : Str))
def k_TRUTH_MAKERS : D := (.tup [(.tup [(.str ("yes" : Str)), (.tup [])]), (.tup [(.str ("no" : Str)), (.tup [])])])
def k_LETTERS : D := (.str ("abcdefghijklmnopqrstuvwxyz" : Str))
def k_MOST_LETTERS : D := (.int 8)
def k_KEPT_WORDS : D := (.tup [(.str ("kind" : Str)), (.str ("def" : Str)), (.str ("either" : Str)), (.str ("same" : Str)), (.str ("truth" : Str))])
def k_FIGURES : D := (.str ("0123456789" : Str))
def k_MOST_FIGURES : D := (.int 3)
def k_MOST_PARTS : D := (.int 3)
def k_MOST_NODES : D := (.int 40)
def k_MOST_KINDS : D := (.int 4)
def k_MOST_MAKERS : D := (.int 4)
def k_MOST_FUNCTIONS : D := (.int 6)
def k_MOST_RULES : D := (.int 8)
def k_SAYING_DEPTH : D := (.int 8)
def k_PATTERN_DEPTH : D := (.int 4)
def k_MOST_USES : D := (.int 2)
abbrev s_is_text_of : Stmt := top 19
abbrev N_is_text_of : List Str := ["thing", "signs", "most", "sign"]
abbrev P_is_text_of : List Str := ["thing", "signs", "most"]
theorem sc_is_text_of : FnScope N_is_text_of P_is_text_of (defScope s_is_text_of) := ⟨rfl, rfl, rfl, by decide +kernel, rfl, by decide +kernel, by decide +kernel⟩
def b_is_text_of : Bd :=
  (bSeq (sIf (tOr' (tNt (trB (e1 (fIsi "str") (eVar 0)))) (tNt (trB (vCh fLe fLe (eC (.int 1)) (eF (f1 fLen) (aCons (eVar 0) aNil)) (eVar 2))))) (sRet (eC (.bl false))) bNil)
  (sRet (eF (f1 fAll) (aCons (eLc (iSeq (eVar 0)) (gN 3) tY (e2 fInD (eVar 3) (eVar 1)) [3]) aNil))))
theorem ok_is_text_of {k : Nat} {a_is_text_of : Addr} {d_is_text_of : FuncData} (T : Bt mg) (C_is_text_of : Cal K mg "is_text_of" s_is_text_of P_is_text_of a_is_text_of d_is_text_of) :
    FnOk P w K mg base CX0 (k + 1) a_is_text_of d_is_text_of P_is_text_of (spM ⟨K, dk⟩ W (fnA 3 4 (b_is_text_of))) :=
  fn_ok [] C_is_text_of.F sc_is_text_of rfl fun cdv A outer s H E R hr =>
    (db_cons (ds_if (dw_pt (dw_or (dt_not (dt_tr (d_isi (d_var (pv 0)) (pe_bltn (v := .ty "str") (by rfl) T.t_str (by decide +kernel) rfl) (by rfl) T.t_isinstance))) (dw_or1 (dt_not (dt_chain op_le o2Le bf_I op_le o2Le bf_I d_int (d_callB call_len (c_len rfl) (by rfl) T.t_len (by decide +kernel) (da_cons (d_var (pv 0)) da_nil)) (d_var (pv 2))))))) (db_one (ds_ret d_bl)) db_nil)
    (db_one (ds_ret (d_callB (cr_all rfl) c_all (by rfl) T.t_all (by decide +kernel) (da_cons (d_lc (own := [("sign", 3)]) sc_is_text_of.nd (di_seq (d_var (pv 0))) (blkOk_by (own := [("sign", 3)]) (N := N_is_text_of) (sc := defScope s_is_text_of) (by decide +kernel)) (fun _ _ _ _ _ => (dg_name (pg_name (i := 3) sc_is_text_of.nd rfl (Or.inl rfl)))) (fun _ _ _ _ _ => dts_nil) (fun _ _ _ _ _ => (d_inD hr.units (d_var (pv 3)) (d_var (pv 1))))) da_nil)))))
abbrev s_is_word : Stmt := top 20
abbrev N_is_word : List Str := ["thing"]
abbrev P_is_word : List Str := ["thing"]
theorem sc_is_word : FnScope N_is_word P_is_word (defScope s_is_word) := ⟨rfl, rfl, rfl, by decide +kernel, rfl, by decide +kernel, by decide +kernel⟩
def b_is_word (c_is_text_of : List D → M D) : Bd :=
  (sRet (vAn (eCall c_is_text_of (aCons (eVar 0) (aCons (eC k_LETTERS) (aCons (eC k_MOST_LETTERS) aNil)))) (e2 fNotInD (eVar 0) (eC k_KEPT_WORDS))))
theorem ok_is_word {k : Nat} {a_is_word : Addr} {d_is_word : FuncData} {a_is_text_of : Addr} {d_is_text_of : FuncData} {c_is_text_of : List D → M D} (T : Bt mg) (C_is_word : Cal K mg "is_word" s_is_word P_is_word a_is_word d_is_word) (C_is_text_of : Cal K mg "is_text_of" s_is_text_of P_is_text_of a_is_text_of d_is_text_of) (G_is_text_of : FnOk P w K mg base CX0 k a_is_text_of d_is_text_of P_is_text_of (spM ⟨K, dk⟩ W c_is_text_of)) (g_KEPT_WORDS : GlobD K mg "KEPT_WORDS" k_KEPT_WORDS) (g_MOST_LETTERS : GlobD K mg "MOST_LETTERS" k_MOST_LETTERS) (g_LETTERS : GlobD K mg "LETTERS" k_LETTERS) :
    FnOk P w K mg base CX0 (k + 1) a_is_word d_is_word P_is_word (spM ⟨K, dk⟩ W (fnA 1 1 (b_is_word c_is_text_of))) :=
  fn_ok [] C_is_word.F sc_is_word rfl fun cdv A outer s H E R hr =>
    (db_one (ds_ret (d_and (d_call G_is_text_of (hr.mono (by omega)) (by rfl) C_is_text_of.m C_is_text_of.F.kp C_is_text_of.b (da_cons (d_var (pv 0)) (da_cons (d_glob (by rfl) g_LETTERS) (da_cons (d_glob (by rfl) g_MOST_LETTERS) da_nil)))) (d_one (d_notinD hr.units (d_var (pv 0)) (d_glob (by rfl) g_KEPT_WORDS))))))
abbrev s_is_new_name : Stmt := top 21
abbrev N_is_new_name : List Str := ["thing"]
abbrev P_is_new_name : List Str := ["thing"]
theorem sc_is_new_name : FnScope N_is_new_name P_is_new_name (defScope s_is_new_name) := ⟨rfl, rfl, rfl, by decide +kernel, rfl, by decide +kernel, by decide +kernel⟩
def b_is_new_name (c_is_text_of : List D → M D) : Bd :=
  (sRet (vAn (eCall c_is_text_of (aCons (eVar 0) (aCons (eC k_FIGURES) (aCons (eC k_MOST_FIGURES) aNil)))) (e1 fNot eNo)))
theorem ok_is_new_name {k : Nat} {a_is_new_name : Addr} {d_is_new_name : FuncData} {a_is_text_of : Addr} {d_is_text_of : FuncData} {c_is_text_of : List D → M D} (T : Bt mg) (C_is_new_name : Cal K mg "is_new_name" s_is_new_name P_is_new_name a_is_new_name d_is_new_name) (C_is_text_of : Cal K mg "is_text_of" s_is_text_of P_is_text_of a_is_text_of d_is_text_of) (G_is_text_of : FnOk P w K mg base CX0 k a_is_text_of d_is_text_of P_is_text_of (spM ⟨K, dk⟩ W c_is_text_of)) (g_MOST_FIGURES : GlobD K mg "MOST_FIGURES" k_MOST_FIGURES) (g_FIGURES : GlobD K mg "FIGURES" k_FIGURES) :
    FnOk P w K mg base CX0 (k + 1) a_is_new_name d_is_new_name P_is_new_name (spM ⟨K, dk⟩ W (fnA 1 1 (b_is_new_name c_is_text_of))) :=
  fn_ok [] C_is_new_name.F sc_is_new_name rfl fun cdv A outer s H E R hr =>
    (db_one (ds_ret (d_and (d_call G_is_text_of (hr.mono (by omega)) (by rfl) C_is_text_of.m C_is_text_of.F.kp C_is_text_of.b (da_cons (d_var (pv 0)) (da_cons (d_glob (by rfl) g_FIGURES) (da_cons (d_glob (by rfl) g_MOST_FIGURES) da_nil)))) (d_one (d_not d_no)))))
abbrev s_is_node : Stmt := top 22
abbrev N_is_node : List Str := ["thing", "head"]
abbrev P_is_node : List Str := ["thing"]
theorem sc_is_node : FnScope N_is_node P_is_node (defScope s_is_node) := ⟨rfl, rfl, rfl, by decide +kernel, rfl, by decide +kernel, by decide +kernel⟩
def b_is_node (c_is_word : List D → M D) (c_is_new_name : List D → M D) : Bd :=
  (bSeq (sIf (tOr' (tNt (trB (e1 (fIsi "tuple") (eVar 0)))) (trB (e2 fEq (eF (f1 fLen) (aCons (eVar 0) aNil)) (eC (.int 0))))) (sRet (eC (.bl false))) bNil)
  (bSeq (sSet 1 (e2 fDG (eVar 0) (eC (.int 0))))
  (bSeq (sIf (trB (e2 fEq (eVar 1) (eC (.str ("name" : Str))))) (sRet (vAn (e2 fEq (eF (f1 fLen) (aCons (eVar 0) aNil)) (eC (.int 2))) (vOr (eCall c_is_word (aCons (e2 fDG (eVar 0) (eC (.int 1))) aNil)) (eCall c_is_new_name (aCons (e2 fDG (eVar 0) (eC (.int 1))) aNil))))) bNil)
  (bSeq (sIf (tOr' (trB (e2 fEq (eVar 1) (eC (.str ("made" : Str))))) (trB (e2 fEq (eVar 1) (eC (.str ("call" : Str)))))) (sRet (vAn (e2 fEq (eF (f1 fLen) (aCons (eVar 0) aNil)) (eC (.int 3))) (vAn (eCall c_is_word (aCons (e2 fDG (eVar 0) (eC (.int 1))) aNil)) (vAn (e1 (fIsi "tuple") (e2 fDG (eVar 0) (eC (.int 2)))) (e2 fLe (eF (f1 fLen) (aCons (e2 fDG (eVar 0) (eC (.int 2))) aNil)) (eC k_MOST_PARTS)))))) bNil)
  (bSeq (sIf (tOr' (trB (e2 fEq (eVar 1) (eC (.str ("either" : Str))))) (trB (e2 fEq (eVar 1) (eC (.str ("same" : Str)))))) (sRet (e2 fEq (eF (f1 fLen) (aCons (eVar 0) aNil)) (eC (.int 3)))) bNil)
  (sRet (vAn (e2 fEq (eVar 1) (eC (.str ("skip" : Str)))) (e2 fEq (eF (f1 fLen) (aCons (eVar 0) aNil)) (eC (.int 1))))))))))
theorem ok_is_node {k : Nat} {a_is_node : Addr} {d_is_node : FuncData} {a_is_word : Addr} {d_is_word : FuncData} {c_is_word : List D → M D} {a_is_new_name : Addr} {d_is_new_name : FuncData} {c_is_new_name : List D → M D} (T : Bt mg) (C_is_node : Cal K mg "is_node" s_is_node P_is_node a_is_node d_is_node) (C_is_word : Cal K mg "is_word" s_is_word P_is_word a_is_word d_is_word) (G_is_word : FnOk P w K mg base CX0 k a_is_word d_is_word P_is_word (spM ⟨K, dk⟩ W c_is_word)) (C_is_new_name : Cal K mg "is_new_name" s_is_new_name P_is_new_name a_is_new_name d_is_new_name) (G_is_new_name : FnOk P w K mg base CX0 k a_is_new_name d_is_new_name P_is_new_name (spM ⟨K, dk⟩ W c_is_new_name)) (g_MOST_PARTS : GlobD K mg "MOST_PARTS" k_MOST_PARTS) :
    FnOk P w K mg base CX0 (k + 1) a_is_node d_is_node P_is_node (spM ⟨K, dk⟩ W (fnA 1 2 (b_is_node c_is_word c_is_new_name))) :=
  fn_ok [] C_is_node.F sc_is_node rfl fun cdv A outer s H E R hr =>
    (db_cons (ds_if (dw_pt (dw_or (dt_not (dt_tr (d_isi (d_var (pv 0)) (pe_bltn (v := .ty "tuple") (by rfl) T.t_tuple (by decide +kernel) rfl) (by rfl) T.t_isinstance))) (dw_or1 (dt_eq hr.units (d_callB call_len (c_len rfl) (by rfl) T.t_len (by decide +kernel) (da_cons (d_var (pv 0)) da_nil)) d_int)))) (db_one (ds_ret d_bl)) db_nil)
    (db_cons (ds_set (i := 1) sc_is_node.nd rfl (Or.inl rfl) (d_ixD hr.units (d_var (pv 0)) d_int))
    (db_cons (ds_if (dt_eq hr.units (d_var (pv 1)) d_str) (db_one (ds_ret (d_and (d_eq hr.units (d_callB call_len (c_len rfl) (by rfl) T.t_len (by decide +kernel) (da_cons (d_var (pv 0)) da_nil)) d_int) (d_one (d_or (d_call G_is_word (hr.mono (by omega)) (by rfl) C_is_word.m C_is_word.F.kp C_is_word.b (da_cons (d_ixD hr.units (d_var (pv 0)) d_int) da_nil)) (d_one (d_call G_is_new_name (hr.mono (by omega)) (by rfl) C_is_new_name.m C_is_new_name.F.kp C_is_new_name.b (da_cons (d_ixD hr.units (d_var (pv 0)) d_int) da_nil)))))))) db_nil)
    (db_cons (ds_if (dw_pt (dw_or (dt_eq hr.units (d_var (pv 1)) d_str) (dw_or1 (dt_eq hr.units (d_var (pv 1)) d_str)))) (db_one (ds_ret (d_and (d_eq hr.units (d_callB call_len (c_len rfl) (by rfl) T.t_len (by decide +kernel) (da_cons (d_var (pv 0)) da_nil)) d_int) (d_and (d_call G_is_word (hr.mono (by omega)) (by rfl) C_is_word.m C_is_word.F.kp C_is_word.b (da_cons (d_ixD hr.units (d_var (pv 0)) d_int) da_nil)) (d_and (d_isi (d_ixD hr.units (d_var (pv 0)) d_int) (pe_bltn (v := .ty "tuple") (by rfl) T.t_tuple (by decide +kernel) rfl) (by rfl) T.t_isinstance) (d_one (d_le (d_callB call_len (c_len rfl) (by rfl) T.t_len (by decide +kernel) (da_cons (d_ixD hr.units (d_var (pv 0)) d_int) da_nil)) (d_glob (by rfl) g_MOST_PARTS)))))))) db_nil)
    (db_cons (ds_if (dw_pt (dw_or (dt_eq hr.units (d_var (pv 1)) d_str) (dw_or1 (dt_eq hr.units (d_var (pv 1)) d_str)))) (db_one (ds_ret (d_eq hr.units (d_callB call_len (c_len rfl) (by rfl) T.t_len (by decide +kernel) (da_cons (d_var (pv 0)) da_nil)) d_int))) db_nil)
    (db_one (ds_ret (d_and (d_eq hr.units (d_var (pv 1)) d_str) (d_one (d_eq hr.units (d_callB call_len (c_len rfl) (by rfl) T.t_len (by decide +kernel) (da_cons (d_var (pv 0)) da_nil)) d_int))))))))))
abbrev s_parts_of : Stmt := top 23
abbrev N_parts_of : List Str := ["node"]
abbrev P_parts_of : List Str := ["node"]
theorem sc_parts_of : FnScope N_parts_of P_parts_of (defScope s_parts_of) := ⟨rfl, rfl, rfl, by decide +kernel, rfl, by decide +kernel, by decide +kernel⟩
def b_parts_of : Bd :=
  (bSeq (sIf (trB (e2 fInD (e2 fDG (eVar 0) (eC (.int 0))) (eTup (aCons (eC (.str ("made" : Str))) (aCons (eC (.str ("call" : Str))) aNil))))) (sRet (e2 fDG (eVar 0) (eC (.int 2)))) bNil)
  (bSeq (sIf (trB (e2 fInD (e2 fDG (eVar 0) (eC (.int 0))) (eTup (aCons (eC (.str ("either" : Str))) (aCons (eC (.str ("same" : Str))) aNil))))) (sRet (eSl (eVar 0) (pSome (eC (.int 1))) (fun _ => Mp none))) bNil)
  (sRet (eTup aNil))))
theorem ok_parts_of {k : Nat} {a_parts_of : Addr} {d_parts_of : FuncData} (T : Bt mg) (C_parts_of : Cal K mg "parts_of" s_parts_of P_parts_of a_parts_of d_parts_of) :
    FnOk P w K mg base CX0 (k + 1) a_parts_of d_parts_of P_parts_of (spM ⟨K, dk⟩ W (fnA 1 1 (b_parts_of))) :=
  fn_ok [] C_parts_of.F sc_parts_of rfl fun cdv A outer s H E R hr =>
    (db_cons (ds_if (dt_inD hr.units (d_ixD hr.units (d_var (pv 0)) d_int) (d_tup (da_cons d_str (da_cons d_str da_nil)) (aCons_len (aCons_len aNil_len)))) (db_one (ds_ret (d_ixD hr.units (d_var (pv 0)) d_int))) db_nil)
    (db_cons (ds_if (dt_inD hr.units (d_ixD hr.units (d_var (pv 0)) d_int) (d_tup (da_cons d_str (da_cons d_str da_nil)) (aCons_len (aCons_len aNil_len)))) (db_one (ds_ret (d_sl (d_var (pv 0)) (dp_some d_int) dp_none))) db_nil)
    (db_one (ds_ret (d_tup da_nil aNil_len)))))
abbrev s_nodes_of : Stmt := top 24
abbrev N_nodes_of : List Str := ["saying", "nodes", "waiting", "path", "node", "below", "at", "part"]
abbrev P_nodes_of : List Str := ["saying"]
theorem sc_nodes_of : FnScope N_nodes_of P_nodes_of (defScope s_nodes_of) := ⟨rfl, rfl, rfl, by decide +kernel, rfl, by decide +kernel, by decide +kernel⟩
def l1_nodes_of (c_parts_of : List D → M D) : Bd :=
  (bSeq (sPop 2 (gT (gsC (gN 3) (gsC (gN 4) gsN))))
  (bSeq (sApp 1 (eTup (aCons (eVar 3) (aCons (eVar 4) aNil))))
  (bSeq (sSet 5 (eLc (i1 fEnum (eCall c_parts_of (aCons (eVar 4) aNil))) (gT (gsC (gN 6) (gsC (gN 7) gsN))) tY (eTup (aCons (eTupS (aStar (eVar 3) (aCons (eVar 6) aNil))) (aCons (eVar 7) aNil))) [6, 7]))
  (sExt 2 (e1 fRev (eVar 5))))))
def b_nodes_of (c_parts_of : List D → M D) : Bd :=
  (bSeq (sSet 1 (eLst aNil))
  (bSeq (sSet 2 (eLst (aCons (eTup (aCons (eTup aNil) (aCons (eVar 0) aNil))) aNil)))
  (bSeq (sWh (trB (eVar 2)) (l1_nodes_of c_parts_of))
  (sRet (eF (f1 fTupD) (aCons (eVar 1) aNil))))))
theorem ok_nodes_of {k : Nat} {a_nodes_of : Addr} {d_nodes_of : FuncData} {a_parts_of : Addr} {d_parts_of : FuncData} {c_parts_of : List D → M D} (T : Bt mg) (C_nodes_of : Cal K mg "nodes_of" s_nodes_of P_nodes_of a_nodes_of d_nodes_of) (C_parts_of : Cal K mg "parts_of" s_parts_of P_parts_of a_parts_of d_parts_of) (G_parts_of : FnOk P w K mg base CX0 k a_parts_of d_parts_of P_parts_of (spM ⟨K, dk⟩ W c_parts_of)) :
    FnOk P w K mg base CX0 (k + 1) a_nodes_of d_nodes_of P_nodes_of (spM ⟨K, dk⟩ W (fnA 1 8 (b_nodes_of c_parts_of))) :=
  fn_ok [1, 2] C_nodes_of.F sc_nodes_of rfl fun cdv A outer s H E R hr =>
    (db_cons (ds_setO (i := 1) sc_nodes_of.nd rfl (Or.inl rfl) (do_lst da_nil aNil_len))
    (db_cons (ds_setO (i := 2) sc_nodes_of.nd rfl (Or.inl rfl) (do_lst (da_cons (d_tup (da_cons (d_tup da_nil aNil_len) (da_cons (d_var (pv 0)) da_nil)) (aCons_len (aCons_len aNil_len))) da_nil) (aCons_len aNil_len)))
    (db_cons (ds_wh (dt_open (dt_tr (d_var (pv 2)))) (db_cons (ds_pop (pv 2) (dg_tup (dgs_cons (dg_name (pg_name (i := 3) sc_nodes_of.nd rfl (Or.inr rfl))) (dgs_cons (dg_name (pg_name (i := 4) sc_nodes_of.nd rfl (Or.inl rfl))) dgs_nil))))
    (db_cons (ds_app (pv 1) (d_tup (da_cons (d_var (pv 3)) (da_cons (d_var (pv 4)) da_nil)) (aCons_len (aCons_len aNil_len))))
    (db_cons (ds_setLc (i := 5) (own := [("at", 6), ("part", 7)]) sc_nodes_of.nd rfl rfl (sw_true rfl rfl rfl (by decide +kernel)) (di_enum (d_call G_parts_of (hr.mono (by omega)) (by rfl) C_parts_of.m C_parts_of.F.kp C_parts_of.b (da_cons (d_var (pv 4)) da_nil)) (by rfl) T.t_enumerate) (blkOk_by (own := [("at", 6), ("part", 7)]) (N := N_nodes_of) (sc := defScope s_nodes_of) (by decide +kernel)) (fun _ _ _ _ _ => (dg_tup (dgs_cons (dg_name (pg_name (i := 6) sc_nodes_of.nd rfl (Or.inl rfl))) (dgs_cons (dg_name (pg_name (i := 7) sc_nodes_of.nd rfl (Or.inl rfl))) dgs_nil)))) (fun _ _ _ _ _ => dts_nil) (fun _ _ _ _ _ => (d_tup (da_cons (d_tupS (da_star (d_var (pv 3)) (da_cons (d_var (pv 6)) da_nil))) (da_cons (d_var (pv 7)) da_nil)) (aCons_len (aCons_len aNil_len)))))
    (db_one (ds_ext (pv 2) (d_rev (d_var (pv 5)))))))))
    (db_one (ds_ret (d_callT (call_tuple_of.or (call_tup_dR rfl)) (c_tupD rfl) (by rfl) T.t_tuple (by decide +kernel) (da_cons (d_var (pv 1)) da_nil)))))))
abbrev s_names_of : Stmt := top 25
abbrev N_names_of : List Str := ["saying", "names", "path", "node"]
abbrev P_names_of : List Str := ["saying"]
theorem sc_names_of : FnScope N_names_of P_names_of (defScope s_names_of) := ⟨rfl, rfl, rfl, by decide +kernel, rfl, by decide +kernel, by decide +kernel⟩
def b_names_of (c_nodes_of : List D → M D) : Bd :=
  (bSeq (sSet 1 (eDc (iSeq (eCall c_nodes_of (aCons (eVar 0) aNil))) (gT (gsC (gN 2) (gsC (gN 3) gsN))) (trB (e2 fEq (e2 fDG (eVar 3) (eC (.int 0))) (eC (.str ("name" : Str))))) (e2 fDG (eVar 3) (eC (.int 1))) (eC (.bl true)) [2, 3]))
  (sRet (eF (f1 fTupD) (aCons (eVar 1) aNil))))
theorem ok_names_of {k : Nat} {a_names_of : Addr} {d_names_of : FuncData} {a_nodes_of : Addr} {d_nodes_of : FuncData} {c_nodes_of : List D → M D} (T : Bt mg) (C_names_of : Cal K mg "names_of" s_names_of P_names_of a_names_of d_names_of) (C_nodes_of : Cal K mg "nodes_of" s_nodes_of P_nodes_of a_nodes_of d_nodes_of) (G_nodes_of : FnOk P w K mg base CX0 k a_nodes_of d_nodes_of P_nodes_of (spM ⟨K, dk⟩ W c_nodes_of)) :
    FnOk P w K mg base CX0 (k + 1) a_names_of d_names_of P_names_of (spM ⟨K, dk⟩ W (fnA 1 4 (b_names_of c_nodes_of))) :=
  fn_ok [] C_names_of.F sc_names_of rfl fun cdv A outer s H E R hr =>
    (db_cons (ds_setDc (i := 1) (own := [("path", 2), ("node", 3)]) sc_names_of.nd rfl rfl (sw_trueD rfl rfl rfl (by decide +kernel)) (di_seq (d_call G_nodes_of (hr.mono (by omega)) (by rfl) C_nodes_of.m C_nodes_of.F.kp C_nodes_of.b (da_cons (d_var (pv 0)) da_nil))) (blkOk_by (own := [("path", 2), ("node", 3)]) (N := N_names_of) (sc := defScope s_names_of) (by decide +kernel)) (fun _ _ _ _ _ => (dg_tup (dgs_cons (dg_name (pg_name (i := 2) sc_names_of.nd rfl (Or.inl rfl))) (dgs_cons (dg_name (pg_name (i := 3) sc_names_of.nd rfl (Or.inl rfl))) dgs_nil)))) (fun _ _ _ _ _ => (dts_one (dt_eq hr.units (d_ixD hr.units (d_var (pv 3)) d_int) d_str))) (fun _ _ _ _ _ => (d_ixD hr.units (d_var (pv 3)) d_int)) (fun _ _ _ _ _ => d_bl))
    (db_one (ds_ret (d_callT (call_tuple_of.or (call_tup_dR rfl)) (c_tupD rfl) (by rfl) T.t_tuple (by decide +kernel) (da_cons (d_var (pv 1)) da_nil)))))
abbrev s_is_row : Stmt := top 36
abbrev N_is_row : List Str := ["thing", "least", "most"]
abbrev P_is_row : List Str := ["thing", "least", "most"]
theorem sc_is_row : FnScope N_is_row P_is_row (defScope s_is_row) := ⟨rfl, rfl, rfl, by decide +kernel, rfl, by decide +kernel, by decide +kernel⟩
def b_is_row : Bd :=
  (sRet (vAn (e1 (fIsi "tuple") (eVar 0)) (vCh fLe fLe (eVar 1) (eF (f1 fLen) (aCons (eVar 0) aNil)) (eVar 2))))
theorem ok_is_row {k : Nat} {a_is_row : Addr} {d_is_row : FuncData} (T : Bt mg) (C_is_row : Cal K mg "is_row" s_is_row P_is_row a_is_row d_is_row) :
    FnOk P w K mg base CX0 (k + 1) a_is_row d_is_row P_is_row (spM ⟨K, dk⟩ W (fnA 3 3 (b_is_row))) :=
  fn_ok [] C_is_row.F sc_is_row rfl fun cdv A outer s H E R hr =>
    (db_one (ds_ret (d_and (d_isi (d_var (pv 0)) (pe_bltn (v := .ty "tuple") (by rfl) T.t_tuple (by decide +kernel) rfl) (by rfl) T.t_isinstance) (d_one (d_chain op_le o2Le bf_I op_le o2Le (d_var (pv 1)) (d_callB call_len (c_len rfl) (by rfl) T.t_len (by decide +kernel) (da_cons (d_var (pv 0)) da_nil)) (d_var (pv 2)))))))
abbrev s_is_sized : Stmt := top 37
abbrev N_is_sized : List Str := ["thing", "depth", "waiting", "many", "node", "level", "part"]
abbrev P_is_sized : List Str := ["thing", "depth"]
theorem sc_is_sized : FnScope N_is_sized P_is_sized (defScope s_is_sized) := ⟨rfl, rfl, rfl, by decide +kernel, rfl, by decide +kernel, by decide +kernel⟩
def l1_is_sized (c_is_node : List D → M D) (c_parts_of : List D → M D) : Bd :=
  (bSeq (sPop 2 (gT (gsC (gN 4) (gsC (gN 5) gsN))))
  (bSeq (sAug 3 fAddI (eC (.int 1)))
  (bSeq (sIf (tOr' (trB (e2 fGt (eVar 3) (eC k_MOST_NODES))) (tOr' (trB (e2 fGt (eVar 5) (eVar 1))) (tOr' (tNt (trB (eCall c_is_node (aCons (eVar 4) aNil)))) (trB (e2 fEq (e2 fDG (eVar 4) (eC (.int 0))) (eC (.str ("skip" : Str)))))))) (sRet (eC (.bl false))) bNil)
  (sExt 2 (eLc (iSeq (eCall c_parts_of (aCons (eVar 4) aNil))) (gN 6) tY (eTup (aCons (eVar 6) (aCons (e2 fAdd (eVar 5) (eC (.int 1))) aNil))) [6])))))
def b_is_sized (c_parts_of : List D → M D) (c_is_node : List D → M D) : Bd :=
  (bSeq (sSet 2 (eLst (aCons (eTup (aCons (eVar 0) (aCons (eC (.int 1)) aNil))) aNil)))
  (bSeq (sSet 3 (eC (.int 0)))
  (bSeq (sWh (trB (eVar 2)) (l1_is_sized c_is_node c_parts_of))
  (sRet (eC (.bl true))))))
theorem ok_is_sized {k : Nat} {a_is_sized : Addr} {d_is_sized : FuncData} {a_parts_of : Addr} {d_parts_of : FuncData} {c_parts_of : List D → M D} {a_is_node : Addr} {d_is_node : FuncData} {c_is_node : List D → M D} (T : Bt mg) (C_is_sized : Cal K mg "is_sized" s_is_sized P_is_sized a_is_sized d_is_sized) (C_parts_of : Cal K mg "parts_of" s_parts_of P_parts_of a_parts_of d_parts_of) (G_parts_of : FnOk P w K mg base CX0 k a_parts_of d_parts_of P_parts_of (spM ⟨K, dk⟩ W c_parts_of)) (C_is_node : Cal K mg "is_node" s_is_node P_is_node a_is_node d_is_node) (G_is_node : FnOk P w K mg base CX0 k a_is_node d_is_node P_is_node (spM ⟨K, dk⟩ W c_is_node)) (g_MOST_NODES : GlobD K mg "MOST_NODES" k_MOST_NODES) :
    FnOk P w K mg base CX0 (k + 1) a_is_sized d_is_sized P_is_sized (spM ⟨K, dk⟩ W (fnA 2 7 (b_is_sized c_parts_of c_is_node))) :=
  fn_ok [2] C_is_sized.F sc_is_sized rfl fun cdv A outer s H E R hr =>
    (db_cons (ds_setO (i := 2) sc_is_sized.nd rfl (Or.inl rfl) (do_lst (da_cons (d_tup (da_cons (d_var (pv 0)) (da_cons d_int da_nil)) (aCons_len (aCons_len aNil_len))) da_nil) (aCons_len aNil_len)))
    (db_cons (ds_set (i := 3) sc_is_sized.nd rfl (Or.inl rfl) d_int)
    (db_cons (ds_wh (dt_open (dt_tr (d_var (pv 2)))) (db_cons (ds_pop (pv 2) (dg_tup (dgs_cons (dg_name (pg_name (i := 4) sc_is_sized.nd rfl (Or.inl rfl))) (dgs_cons (dg_name (pg_name (i := 5) sc_is_sized.nd rfl (Or.inr rfl))) dgs_nil))))
    (db_cons (ds_augI (i := 3) sc_is_sized.nd rfl (Or.inl rfl) d_int)
    (db_cons (ds_if (dw_pt (dw_or (dt_gt (d_var (pv 3)) (d_glob (by rfl) g_MOST_NODES)) (dw_or (dt_gt (d_var (pv 5)) (d_var (pv 1))) (dw_or (dt_not (dt_tr (d_call G_is_node (hr.mono (by omega)) (by rfl) C_is_node.m C_is_node.F.kp C_is_node.b (da_cons (d_var (pv 4)) da_nil)))) (dw_or1 (dt_eq hr.units (d_ixD hr.units (d_var (pv 4)) d_int) d_str)))))) (db_one (ds_ret d_bl)) db_nil)
    (db_one (ds_ext (pv 2) (d_lc (own := [("part", 6)]) sc_is_sized.nd (di_seq (d_call G_parts_of (hr.mono (by omega)) (by rfl) C_parts_of.m C_parts_of.F.kp C_parts_of.b (da_cons (d_var (pv 4)) da_nil))) (blkOk_by (own := [("part", 6)]) (N := N_is_sized) (sc := defScope s_is_sized) (by decide +kernel)) (fun _ _ _ _ _ => (dg_name (pg_name (i := 6) sc_is_sized.nd rfl (Or.inl rfl)))) (fun _ _ _ _ _ => dts_nil) (fun _ _ _ _ _ => (d_tup (da_cons (d_var (pv 6)) (da_cons (d_add (d_var (pv 5)) d_int) da_nil)) (aCons_len (aCons_len aNil_len)))))))))))
    (db_one (ds_ret d_bl)))))
abbrev s_is_written : Stmt := top 38
abbrev N_is_written : List Str := ["thing", "depth", "name"]
abbrev P_is_written : List Str := ["thing", "depth"]
theorem sc_is_written : FnScope N_is_written P_is_written (defScope s_is_written) := ⟨rfl, rfl, rfl, by decide +kernel, rfl, by decide +kernel, by decide +kernel⟩
def b_is_written (c_names_of : List D → M D) (c_is_word : List D → M D) (c_is_sized : List D → M D) : Bd :=
  (sRet (vAn (eCall c_is_sized (aCons (eVar 0) (aCons (eVar 1) aNil))) (eF (f1 fAll) (aCons (eLc (iSeq (eCall c_names_of (aCons (eVar 0) aNil))) (gN 2) tY (eCall c_is_word (aCons (eVar 2) aNil)) [2]) aNil))))
theorem ok_is_written {k : Nat} {a_is_written : Addr} {d_is_written : FuncData} {a_names_of : Addr} {d_names_of : FuncData} {c_names_of : List D → M D} {a_is_word : Addr} {d_is_word : FuncData} {c_is_word : List D → M D} {a_is_sized : Addr} {d_is_sized : FuncData} {c_is_sized : List D → M D} (T : Bt mg) (C_is_written : Cal K mg "is_written" s_is_written P_is_written a_is_written d_is_written) (C_names_of : Cal K mg "names_of" s_names_of P_names_of a_names_of d_names_of) (G_names_of : FnOk P w K mg base CX0 k a_names_of d_names_of P_names_of (spM ⟨K, dk⟩ W c_names_of)) (C_is_word : Cal K mg "is_word" s_is_word P_is_word a_is_word d_is_word) (G_is_word : FnOk P w K mg base CX0 k a_is_word d_is_word P_is_word (spM ⟨K, dk⟩ W c_is_word)) (C_is_sized : Cal K mg "is_sized" s_is_sized P_is_sized a_is_sized d_is_sized) (G_is_sized : FnOk P w K mg base CX0 k a_is_sized d_is_sized P_is_sized (spM ⟨K, dk⟩ W c_is_sized)) :
    FnOk P w K mg base CX0 (k + 1) a_is_written d_is_written P_is_written (spM ⟨K, dk⟩ W (fnA 2 3 (b_is_written c_names_of c_is_word c_is_sized))) :=
  fn_ok [] C_is_written.F sc_is_written rfl fun cdv A outer s H E R hr =>
    (db_one (ds_ret (d_and (d_call G_is_sized (hr.mono (by omega)) (by rfl) C_is_sized.m C_is_sized.F.kp C_is_sized.b (da_cons (d_var (pv 0)) (da_cons (d_var (pv 1)) da_nil))) (d_one (d_callB (cr_all rfl) c_all (by rfl) T.t_all (by decide +kernel) (da_cons (d_lc (own := [("name", 2)]) sc_is_written.nd (di_seq (d_call G_names_of (hr.mono (by omega)) (by rfl) C_names_of.m C_names_of.F.kp C_names_of.b (da_cons (d_var (pv 0)) da_nil))) (blkOk_by (own := [("name", 2)]) (N := N_is_written) (sc := defScope s_is_written) (by decide +kernel)) (fun _ _ _ _ _ => (dg_name (pg_name (i := 2) sc_is_written.nd rfl (Or.inl rfl)))) (fun _ _ _ _ _ => dts_nil) (fun _ _ _ _ _ => (d_call G_is_word (hr.mono (by omega)) (by rfl) C_is_word.m C_is_word.F.kp C_is_word.b (da_cons (d_var (pv 2)) da_nil)))) da_nil))))))
abbrev s_is_kind_name : Stmt := top 39
abbrev N_is_kind_name : List Str := ["thing"]
abbrev P_is_kind_name : List Str := ["thing"]
theorem sc_is_kind_name : FnScope N_is_kind_name P_is_kind_name (defScope s_is_kind_name) := ⟨rfl, rfl, rfl, by decide +kernel, rfl, by decide +kernel, by decide +kernel⟩
def b_is_kind_name (c_is_word : List D → M D) : Bd :=
  (sRet (vOr (eCall c_is_word (aCons (eVar 0) aNil)) (e2 fEq (eVar 0) (eC k_TRUTH))))
theorem ok_is_kind_name {k : Nat} {a_is_kind_name : Addr} {d_is_kind_name : FuncData} {a_is_word : Addr} {d_is_word : FuncData} {c_is_word : List D → M D} (T : Bt mg) (C_is_kind_name : Cal K mg "is_kind_name" s_is_kind_name P_is_kind_name a_is_kind_name d_is_kind_name) (C_is_word : Cal K mg "is_word" s_is_word P_is_word a_is_word d_is_word) (G_is_word : FnOk P w K mg base CX0 k a_is_word d_is_word P_is_word (spM ⟨K, dk⟩ W c_is_word)) (g_TRUTH : GlobD K mg "TRUTH" k_TRUTH) :
    FnOk P w K mg base CX0 (k + 1) a_is_kind_name d_is_kind_name P_is_kind_name (spM ⟨K, dk⟩ W (fnA 1 1 (b_is_kind_name c_is_word))) :=
  fn_ok [] C_is_kind_name.F sc_is_kind_name rfl fun cdv A outer s H E R hr =>
    (db_one (ds_ret (d_or (d_call G_is_word (hr.mono (by omega)) (by rfl) C_is_word.m C_is_word.F.kp C_is_word.b (da_cons (d_var (pv 0)) da_nil)) (d_one (d_eq hr.units (d_var (pv 0)) (d_glob (by rfl) g_TRUTH))))))
abbrev s_are_kind_names : Stmt := top 40
abbrev N_are_kind_names : List Str := ["thing", "kind"]
abbrev P_are_kind_names : List Str := ["thing"]
theorem sc_are_kind_names : FnScope N_are_kind_names P_are_kind_names (defScope s_are_kind_names) := ⟨rfl, rfl, rfl, by decide +kernel, rfl, by decide +kernel, by decide +kernel⟩
def b_are_kind_names (c_is_kind_name : List D → M D) (c_is_row : List D → M D) : Bd :=
  (sRet (vAn (eCall c_is_row (aCons (eVar 0) (aCons (eC (.int 0)) (aCons (eC k_MOST_PARTS) aNil)))) (eF (f1 fAll) (aCons (eLc (iSeq (eVar 0)) (gN 1) tY (eCall c_is_kind_name (aCons (eVar 1) aNil)) [1]) aNil))))
theorem ok_are_kind_names {k : Nat} {a_are_kind_names : Addr} {d_are_kind_names : FuncData} {a_is_kind_name : Addr} {d_is_kind_name : FuncData} {c_is_kind_name : List D → M D} {a_is_row : Addr} {d_is_row : FuncData} {c_is_row : List D → M D} (T : Bt mg) (C_are_kind_names : Cal K mg "are_kind_names" s_are_kind_names P_are_kind_names a_are_kind_names d_are_kind_names) (C_is_kind_name : Cal K mg "is_kind_name" s_is_kind_name P_is_kind_name a_is_kind_name d_is_kind_name) (G_is_kind_name : FnOk P w K mg base CX0 k a_is_kind_name d_is_kind_name P_is_kind_name (spM ⟨K, dk⟩ W c_is_kind_name)) (C_is_row : Cal K mg "is_row" s_is_row P_is_row a_is_row d_is_row) (G_is_row : FnOk P w K mg base CX0 k a_is_row d_is_row P_is_row (spM ⟨K, dk⟩ W c_is_row)) (g_MOST_PARTS : GlobD K mg "MOST_PARTS" k_MOST_PARTS) :
    FnOk P w K mg base CX0 (k + 1) a_are_kind_names d_are_kind_names P_are_kind_names (spM ⟨K, dk⟩ W (fnA 1 2 (b_are_kind_names c_is_kind_name c_is_row))) :=
  fn_ok [] C_are_kind_names.F sc_are_kind_names rfl fun cdv A outer s H E R hr =>
    (db_one (ds_ret (d_and (d_call G_is_row (hr.mono (by omega)) (by rfl) C_is_row.m C_is_row.F.kp C_is_row.b (da_cons (d_var (pv 0)) (da_cons d_int (da_cons (d_glob (by rfl) g_MOST_PARTS) da_nil)))) (d_one (d_callB (cr_all rfl) c_all (by rfl) T.t_all (by decide +kernel) (da_cons (d_lc (own := [("kind", 1)]) sc_are_kind_names.nd (di_seq (d_var (pv 0))) (blkOk_by (own := [("kind", 1)]) (N := N_are_kind_names) (sc := defScope s_are_kind_names) (by decide +kernel)) (fun _ _ _ _ _ => (dg_name (pg_name (i := 1) sc_are_kind_names.nd rfl (Or.inl rfl)))) (fun _ _ _ _ _ => dts_nil) (fun _ _ _ _ _ => (d_call G_is_kind_name (hr.mono (by omega)) (by rfl) C_is_kind_name.m C_is_kind_name.F.kp C_is_kind_name.b (da_cons (d_var (pv 1)) da_nil)))) da_nil))))))
abbrev s_is_maker_form : Stmt := top 41
abbrev N_is_maker_form : List Str := ["thing"]
abbrev P_is_maker_form : List Str := ["thing"]
theorem sc_is_maker_form : FnScope N_is_maker_form P_is_maker_form (defScope s_is_maker_form) := ⟨rfl, rfl, rfl, by decide +kernel, rfl, by decide +kernel, by decide +kernel⟩
def b_is_maker_form (c_are_kind_names : List D → M D) (c_is_word : List D → M D) (c_is_row : List D → M D) : Bd :=
  (sRet (vAn (eCall c_is_row (aCons (eVar 0) (aCons (eC (.int 2)) (aCons (eC (.int 2)) aNil)))) (vAn (eCall c_is_word (aCons (e2 fDG (eVar 0) (eC (.int 0))) aNil)) (eCall c_are_kind_names (aCons (e2 fDG (eVar 0) (eC (.int 1))) aNil)))))
theorem ok_is_maker_form {k : Nat} {a_is_maker_form : Addr} {d_is_maker_form : FuncData} {a_are_kind_names : Addr} {d_are_kind_names : FuncData} {c_are_kind_names : List D → M D} {a_is_word : Addr} {d_is_word : FuncData} {c_is_word : List D → M D} {a_is_row : Addr} {d_is_row : FuncData} {c_is_row : List D → M D} (T : Bt mg) (C_is_maker_form : Cal K mg "is_maker_form" s_is_maker_form P_is_maker_form a_is_maker_form d_is_maker_form) (C_are_kind_names : Cal K mg "are_kind_names" s_are_kind_names P_are_kind_names a_are_kind_names d_are_kind_names) (G_are_kind_names : FnOk P w K mg base CX0 k a_are_kind_names d_are_kind_names P_are_kind_names (spM ⟨K, dk⟩ W c_are_kind_names)) (C_is_word : Cal K mg "is_word" s_is_word P_is_word a_is_word d_is_word) (G_is_word : FnOk P w K mg base CX0 k a_is_word d_is_word P_is_word (spM ⟨K, dk⟩ W c_is_word)) (C_is_row : Cal K mg "is_row" s_is_row P_is_row a_is_row d_is_row) (G_is_row : FnOk P w K mg base CX0 k a_is_row d_is_row P_is_row (spM ⟨K, dk⟩ W c_is_row)) :
    FnOk P w K mg base CX0 (k + 1) a_is_maker_form d_is_maker_form P_is_maker_form (spM ⟨K, dk⟩ W (fnA 1 1 (b_is_maker_form c_are_kind_names c_is_word c_is_row))) :=
  fn_ok [] C_is_maker_form.F sc_is_maker_form rfl fun cdv A outer s H E R hr =>
    (db_one (ds_ret (d_and (d_call G_is_row (hr.mono (by omega)) (by rfl) C_is_row.m C_is_row.F.kp C_is_row.b (da_cons (d_var (pv 0)) (da_cons d_int (da_cons d_int da_nil)))) (d_and (d_call G_is_word (hr.mono (by omega)) (by rfl) C_is_word.m C_is_word.F.kp C_is_word.b (da_cons (d_ixD hr.units (d_var (pv 0)) d_int) da_nil)) (d_one (d_call G_are_kind_names (hr.mono (by omega)) (by rfl) C_are_kind_names.m C_are_kind_names.F.kp C_are_kind_names.b (da_cons (d_ixD hr.units (d_var (pv 0)) d_int) da_nil)))))))
abbrev s_is_kind_form : Stmt := top 42
abbrev N_is_kind_form : List Str := ["thing", "maker"]
abbrev P_is_kind_form : List Str := ["thing"]
theorem sc_is_kind_form : FnScope N_is_kind_form P_is_kind_form (defScope s_is_kind_form) := ⟨rfl, rfl, rfl, by decide +kernel, rfl, by decide +kernel, by decide +kernel⟩
def b_is_kind_form (c_is_maker_form : List D → M D) (c_is_row : List D → M D) (c_is_word : List D → M D) : Bd :=
  (bSeq (sIf (tOr' (tNt (trB (eCall c_is_row (aCons (eVar 0) (aCons (eC (.int 2)) (aCons (eC (.int 2)) aNil)))))) (tOr' (tNt (trB (eCall c_is_word (aCons (e2 fDG (eVar 0) (eC (.int 0))) aNil)))) (tNt (trB (eCall c_is_row (aCons (e2 fDG (eVar 0) (eC (.int 1))) (aCons (eC (.int 1)) (aCons (eC k_MOST_MAKERS) aNil)))))))) (sRet (eC (.bl false))) bNil)
  (sRet (eF (f1 fAll) (aCons (eLc (iSeq (e2 fDG (eVar 0) (eC (.int 1)))) (gN 1) tY (eCall c_is_maker_form (aCons (eVar 1) aNil)) [1]) aNil))))
theorem ok_is_kind_form {k : Nat} {a_is_kind_form : Addr} {d_is_kind_form : FuncData} {a_is_maker_form : Addr} {d_is_maker_form : FuncData} {c_is_maker_form : List D → M D} {a_is_row : Addr} {d_is_row : FuncData} {c_is_row : List D → M D} {a_is_word : Addr} {d_is_word : FuncData} {c_is_word : List D → M D} (T : Bt mg) (C_is_kind_form : Cal K mg "is_kind_form" s_is_kind_form P_is_kind_form a_is_kind_form d_is_kind_form) (C_is_maker_form : Cal K mg "is_maker_form" s_is_maker_form P_is_maker_form a_is_maker_form d_is_maker_form) (G_is_maker_form : FnOk P w K mg base CX0 k a_is_maker_form d_is_maker_form P_is_maker_form (spM ⟨K, dk⟩ W c_is_maker_form)) (C_is_row : Cal K mg "is_row" s_is_row P_is_row a_is_row d_is_row) (G_is_row : FnOk P w K mg base CX0 k a_is_row d_is_row P_is_row (spM ⟨K, dk⟩ W c_is_row)) (C_is_word : Cal K mg "is_word" s_is_word P_is_word a_is_word d_is_word) (G_is_word : FnOk P w K mg base CX0 k a_is_word d_is_word P_is_word (spM ⟨K, dk⟩ W c_is_word)) (g_MOST_MAKERS : GlobD K mg "MOST_MAKERS" k_MOST_MAKERS) :
    FnOk P w K mg base CX0 (k + 1) a_is_kind_form d_is_kind_form P_is_kind_form (spM ⟨K, dk⟩ W (fnA 1 2 (b_is_kind_form c_is_maker_form c_is_row c_is_word))) :=
  fn_ok [] C_is_kind_form.F sc_is_kind_form rfl fun cdv A outer s H E R hr =>
    (db_cons (ds_if (dw_pt (dw_or (dt_not (dt_tr (d_call G_is_row (hr.mono (by omega)) (by rfl) C_is_row.m C_is_row.F.kp C_is_row.b (da_cons (d_var (pv 0)) (da_cons d_int (da_cons d_int da_nil)))))) (dw_or (dt_not (dt_tr (d_call G_is_word (hr.mono (by omega)) (by rfl) C_is_word.m C_is_word.F.kp C_is_word.b (da_cons (d_ixD hr.units (d_var (pv 0)) d_int) da_nil)))) (dw_or1 (dt_not (dt_tr (d_call G_is_row (hr.mono (by omega)) (by rfl) C_is_row.m C_is_row.F.kp C_is_row.b (da_cons (d_ixD hr.units (d_var (pv 0)) d_int) (da_cons d_int (da_cons (d_glob (by rfl) g_MOST_MAKERS) da_nil)))))))))) (db_one (ds_ret d_bl)) db_nil)
    (db_one (ds_ret (d_callB (cr_all rfl) c_all (by rfl) T.t_all (by decide +kernel) (da_cons (d_lc (own := [("maker", 1)]) sc_is_kind_form.nd (di_seq (d_ixD hr.units (d_var (pv 0)) d_int)) (blkOk_by (own := [("maker", 1)]) (N := N_is_kind_form) (sc := defScope s_is_kind_form) (by decide +kernel)) (fun _ _ _ _ _ => (dg_name (pg_name (i := 1) sc_is_kind_form.nd rfl (Or.inl rfl)))) (fun _ _ _ _ _ => dts_nil) (fun _ _ _ _ _ => (d_call G_is_maker_form (hr.mono (by omega)) (by rfl) C_is_maker_form.m C_is_maker_form.F.kp C_is_maker_form.b (da_cons (d_var (pv 1)) da_nil)))) da_nil)))))
abbrev s_is_rule_form : Stmt := top 43
abbrev N_is_rule_form : List Str := ["thing", "pattern"]
abbrev P_is_rule_form : List Str := ["thing"]
theorem sc_is_rule_form : FnScope N_is_rule_form P_is_rule_form (defScope s_is_rule_form) := ⟨rfl, rfl, rfl, by decide +kernel, rfl, by decide +kernel, by decide +kernel⟩
def b_is_rule_form (c_is_written : List D → M D) (c_is_row : List D → M D) : Bd :=
  (bSeq (sIf (tOr' (tNt (trB (eCall c_is_row (aCons (eVar 0) (aCons (eC (.int 2)) (aCons (eC (.int 2)) aNil)))))) (tNt (trB (e1 (fIsi "tuple") (e2 fDG (eVar 0) (eC (.int 0))))))) (sRet (eC (.bl false))) bNil)
  (sRet (vAn (eF (f1 fAll) (aCons (eLc (iSeq (e2 fDG (eVar 0) (eC (.int 0)))) (gN 1) tY (eCall c_is_written (aCons (eVar 1) (aCons (eC k_PATTERN_DEPTH) aNil))) [1]) aNil)) (eCall c_is_written (aCons (e2 fDG (eVar 0) (eC (.int 1))) (aCons (eC k_SAYING_DEPTH) aNil))))))
theorem ok_is_rule_form {k : Nat} {a_is_rule_form : Addr} {d_is_rule_form : FuncData} {a_is_written : Addr} {d_is_written : FuncData} {c_is_written : List D → M D} {a_is_row : Addr} {d_is_row : FuncData} {c_is_row : List D → M D} (T : Bt mg) (C_is_rule_form : Cal K mg "is_rule_form" s_is_rule_form P_is_rule_form a_is_rule_form d_is_rule_form) (C_is_written : Cal K mg "is_written" s_is_written P_is_written a_is_written d_is_written) (G_is_written : FnOk P w K mg base CX0 k a_is_written d_is_written P_is_written (spM ⟨K, dk⟩ W c_is_written)) (C_is_row : Cal K mg "is_row" s_is_row P_is_row a_is_row d_is_row) (G_is_row : FnOk P w K mg base CX0 k a_is_row d_is_row P_is_row (spM ⟨K, dk⟩ W c_is_row)) (g_SAYING_DEPTH : GlobD K mg "SAYING_DEPTH" k_SAYING_DEPTH) (g_PATTERN_DEPTH : GlobD K mg "PATTERN_DEPTH" k_PATTERN_DEPTH) :
    FnOk P w K mg base CX0 (k + 1) a_is_rule_form d_is_rule_form P_is_rule_form (spM ⟨K, dk⟩ W (fnA 1 2 (b_is_rule_form c_is_written c_is_row))) :=
  fn_ok [] C_is_rule_form.F sc_is_rule_form rfl fun cdv A outer s H E R hr =>
    (db_cons (ds_if (dw_pt (dw_or (dt_not (dt_tr (d_call G_is_row (hr.mono (by omega)) (by rfl) C_is_row.m C_is_row.F.kp C_is_row.b (da_cons (d_var (pv 0)) (da_cons d_int (da_cons d_int da_nil)))))) (dw_or1 (dt_not (dt_tr (d_isi (d_ixD hr.units (d_var (pv 0)) d_int) (pe_bltn (v := .ty "tuple") (by rfl) T.t_tuple (by decide +kernel) rfl) (by rfl) T.t_isinstance)))))) (db_one (ds_ret d_bl)) db_nil)
    (db_one (ds_ret (d_and (d_callB (cr_all rfl) c_all (by rfl) T.t_all (by decide +kernel) (da_cons (d_lc (own := [("pattern", 1)]) sc_is_rule_form.nd (di_seq (d_ixD hr.units (d_var (pv 0)) d_int)) (blkOk_by (own := [("pattern", 1)]) (N := N_is_rule_form) (sc := defScope s_is_rule_form) (by decide +kernel)) (fun _ _ _ _ _ => (dg_name (pg_name (i := 1) sc_is_rule_form.nd rfl (Or.inl rfl)))) (fun _ _ _ _ _ => dts_nil) (fun _ _ _ _ _ => (d_call G_is_written (hr.mono (by omega)) (by rfl) C_is_written.m C_is_written.F.kp C_is_written.b (da_cons (d_var (pv 1)) (da_cons (d_glob (by rfl) g_PATTERN_DEPTH) da_nil))))) da_nil)) (d_one (d_call G_is_written (hr.mono (by omega)) (by rfl) C_is_written.m C_is_written.F.kp C_is_written.b (da_cons (d_ixD hr.units (d_var (pv 0)) d_int) (da_cons (d_glob (by rfl) g_SAYING_DEPTH) da_nil))))))))
abbrev s_is_function_form : Stmt := top 44
abbrev N_is_function_form : List Str := ["thing", "rule"]
abbrev P_is_function_form : List Str := ["thing"]
theorem sc_is_function_form : FnScope N_is_function_form P_is_function_form (defScope s_is_function_form) := ⟨rfl, rfl, rfl, by decide +kernel, rfl, by decide +kernel, by decide +kernel⟩
def b_is_function_form (c_is_rule_form : List D → M D) (c_is_row : List D → M D) (c_is_kind_name : List D → M D) (c_are_kind_names : List D → M D) (c_is_word : List D → M D) : Bd :=
  (bSeq (sIf (tOr' (tNt (trB (eCall c_is_row (aCons (eVar 0) (aCons (eC (.int 4)) (aCons (eC (.int 4)) aNil)))))) (tOr' (tNt (trB (eCall c_is_word (aCons (e2 fDG (eVar 0) (eC (.int 0))) aNil)))) (tNt (trB (eCall c_are_kind_names (aCons (e2 fDG (eVar 0) (eC (.int 1))) aNil)))))) (sRet (eC (.bl false))) bNil)
  (bSeq (sIf (tOr' (tNt (trB (eCall c_is_kind_name (aCons (e2 fDG (eVar 0) (eC (.int 2))) aNil)))) (tNt (trB (eCall c_is_row (aCons (e2 fDG (eVar 0) (eC (.int 3))) (aCons (eC (.int 1)) (aCons (eC k_MOST_RULES) aNil))))))) (sRet (eC (.bl false))) bNil)
  (sRet (eF (f1 fAll) (aCons (eLc (iSeq (e2 fDG (eVar 0) (eC (.int 3)))) (gN 1) tY (eCall c_is_rule_form (aCons (eVar 1) aNil)) [1]) aNil)))))
theorem ok_is_function_form {k : Nat} {a_is_function_form : Addr} {d_is_function_form : FuncData} {a_is_rule_form : Addr} {d_is_rule_form : FuncData} {c_is_rule_form : List D → M D} {a_is_row : Addr} {d_is_row : FuncData} {c_is_row : List D → M D} {a_is_kind_name : Addr} {d_is_kind_name : FuncData} {c_is_kind_name : List D → M D} {a_are_kind_names : Addr} {d_are_kind_names : FuncData} {c_are_kind_names : List D → M D} {a_is_word : Addr} {d_is_word : FuncData} {c_is_word : List D → M D} (T : Bt mg) (C_is_function_form : Cal K mg "is_function_form" s_is_function_form P_is_function_form a_is_function_form d_is_function_form) (C_is_rule_form : Cal K mg "is_rule_form" s_is_rule_form P_is_rule_form a_is_rule_form d_is_rule_form) (G_is_rule_form : FnOk P w K mg base CX0 k a_is_rule_form d_is_rule_form P_is_rule_form (spM ⟨K, dk⟩ W c_is_rule_form)) (C_is_row : Cal K mg "is_row" s_is_row P_is_row a_is_row d_is_row) (G_is_row : FnOk P w K mg base CX0 k a_is_row d_is_row P_is_row (spM ⟨K, dk⟩ W c_is_row)) (C_is_kind_name : Cal K mg "is_kind_name" s_is_kind_name P_is_kind_name a_is_kind_name d_is_kind_name) (G_is_kind_name : FnOk P w K mg base CX0 k a_is_kind_name d_is_kind_name P_is_kind_name (spM ⟨K, dk⟩ W c_is_kind_name)) (C_are_kind_names : Cal K mg "are_kind_names" s_are_kind_names P_are_kind_names a_are_kind_names d_are_kind_names) (G_are_kind_names : FnOk P w K mg base CX0 k a_are_kind_names d_are_kind_names P_are_kind_names (spM ⟨K, dk⟩ W c_are_kind_names)) (C_is_word : Cal K mg "is_word" s_is_word P_is_word a_is_word d_is_word) (G_is_word : FnOk P w K mg base CX0 k a_is_word d_is_word P_is_word (spM ⟨K, dk⟩ W c_is_word)) (g_MOST_RULES : GlobD K mg "MOST_RULES" k_MOST_RULES) :
    FnOk P w K mg base CX0 (k + 1) a_is_function_form d_is_function_form P_is_function_form (spM ⟨K, dk⟩ W (fnA 1 2 (b_is_function_form c_is_rule_form c_is_row c_is_kind_name c_are_kind_names c_is_word))) :=
  fn_ok [] C_is_function_form.F sc_is_function_form rfl fun cdv A outer s H E R hr =>
    (db_cons (ds_if (dw_pt (dw_or (dt_not (dt_tr (d_call G_is_row (hr.mono (by omega)) (by rfl) C_is_row.m C_is_row.F.kp C_is_row.b (da_cons (d_var (pv 0)) (da_cons d_int (da_cons d_int da_nil)))))) (dw_or (dt_not (dt_tr (d_call G_is_word (hr.mono (by omega)) (by rfl) C_is_word.m C_is_word.F.kp C_is_word.b (da_cons (d_ixD hr.units (d_var (pv 0)) d_int) da_nil)))) (dw_or1 (dt_not (dt_tr (d_call G_are_kind_names (hr.mono (by omega)) (by rfl) C_are_kind_names.m C_are_kind_names.F.kp C_are_kind_names.b (da_cons (d_ixD hr.units (d_var (pv 0)) d_int) da_nil)))))))) (db_one (ds_ret d_bl)) db_nil)
    (db_cons (ds_if (dw_pt (dw_or (dt_not (dt_tr (d_call G_is_kind_name (hr.mono (by omega)) (by rfl) C_is_kind_name.m C_is_kind_name.F.kp C_is_kind_name.b (da_cons (d_ixD hr.units (d_var (pv 0)) d_int) da_nil)))) (dw_or1 (dt_not (dt_tr (d_call G_is_row (hr.mono (by omega)) (by rfl) C_is_row.m C_is_row.F.kp C_is_row.b (da_cons (d_ixD hr.units (d_var (pv 0)) d_int) (da_cons d_int (da_cons (d_glob (by rfl) g_MOST_RULES) da_nil))))))))) (db_one (ds_ret d_bl)) db_nil)
    (db_one (ds_ret (d_callB (cr_all rfl) c_all (by rfl) T.t_all (by decide +kernel) (da_cons (d_lc (own := [("rule", 1)]) sc_is_function_form.nd (di_seq (d_ixD hr.units (d_var (pv 0)) d_int)) (blkOk_by (own := [("rule", 1)]) (N := N_is_function_form) (sc := defScope s_is_function_form) (by decide +kernel)) (fun _ _ _ _ _ => (dg_name (pg_name (i := 1) sc_is_function_form.nd rfl (Or.inl rfl)))) (fun _ _ _ _ _ => dts_nil) (fun _ _ _ _ _ => (d_call G_is_rule_form (hr.mono (by omega)) (by rfl) C_is_rule_form.m C_is_rule_form.F.kp C_is_rule_form.b (da_cons (d_var (pv 1)) da_nil)))) da_nil))))))
abbrev s_is_program_form : Stmt := top 45
abbrev N_is_program_form : List Str := ["kinds", "functions", "row"]
abbrev P_is_program_form : List Str := ["kinds", "functions"]
theorem sc_is_program_form : FnScope N_is_program_form P_is_program_form (defScope s_is_program_form) := ⟨rfl, rfl, rfl, by decide +kernel, rfl, by decide +kernel, by decide +kernel⟩
def b_is_program_form (c_is_function_form : List D → M D) (c_is_kind_form : List D → M D) (c_is_row : List D → M D) : Bd :=
  (bSeq (sIf (tOr' (tNt (trB (eCall c_is_row (aCons (eVar 0) (aCons (eC (.int 0)) (aCons (eC k_MOST_KINDS) aNil)))))) (tNt (trB (eCall c_is_row (aCons (eVar 1) (aCons (eC (.int 0)) (aCons (eC k_MOST_FUNCTIONS) aNil))))))) (sRet (eC (.bl false))) bNil)
  (sRet (vAn (eF (f1 fAll) (aCons (eLc (iSeq (eVar 0)) (gN 2) tY (eCall c_is_kind_form (aCons (eVar 2) aNil)) [2]) aNil)) (eF (f1 fAll) (aCons (eLc (iSeq (eVar 1)) (gN 2) tY (eCall c_is_function_form (aCons (eVar 2) aNil)) [2]) aNil)))))
theorem ok_is_program_form {k : Nat} {a_is_program_form : Addr} {d_is_program_form : FuncData} {a_is_function_form : Addr} {d_is_function_form : FuncData} {c_is_function_form : List D → M D} {a_is_kind_form : Addr} {d_is_kind_form : FuncData} {c_is_kind_form : List D → M D} {a_is_row : Addr} {d_is_row : FuncData} {c_is_row : List D → M D} (T : Bt mg) (C_is_program_form : Cal K mg "is_program_form" s_is_program_form P_is_program_form a_is_program_form d_is_program_form) (C_is_function_form : Cal K mg "is_function_form" s_is_function_form P_is_function_form a_is_function_form d_is_function_form) (G_is_function_form : FnOk P w K mg base CX0 k a_is_function_form d_is_function_form P_is_function_form (spM ⟨K, dk⟩ W c_is_function_form)) (C_is_kind_form : Cal K mg "is_kind_form" s_is_kind_form P_is_kind_form a_is_kind_form d_is_kind_form) (G_is_kind_form : FnOk P w K mg base CX0 k a_is_kind_form d_is_kind_form P_is_kind_form (spM ⟨K, dk⟩ W c_is_kind_form)) (C_is_row : Cal K mg "is_row" s_is_row P_is_row a_is_row d_is_row) (G_is_row : FnOk P w K mg base CX0 k a_is_row d_is_row P_is_row (spM ⟨K, dk⟩ W c_is_row)) (g_MOST_FUNCTIONS : GlobD K mg "MOST_FUNCTIONS" k_MOST_FUNCTIONS) (g_MOST_KINDS : GlobD K mg "MOST_KINDS" k_MOST_KINDS) :
    FnOk P w K mg base CX0 (k + 1) a_is_program_form d_is_program_form P_is_program_form (spM ⟨K, dk⟩ W (fnA 2 3 (b_is_program_form c_is_function_form c_is_kind_form c_is_row))) :=
  fn_ok [] C_is_program_form.F sc_is_program_form rfl fun cdv A outer s H E R hr =>
    (db_cons (ds_if (dw_pt (dw_or (dt_not (dt_tr (d_call G_is_row (hr.mono (by omega)) (by rfl) C_is_row.m C_is_row.F.kp C_is_row.b (da_cons (d_var (pv 0)) (da_cons d_int (da_cons (d_glob (by rfl) g_MOST_KINDS) da_nil)))))) (dw_or1 (dt_not (dt_tr (d_call G_is_row (hr.mono (by omega)) (by rfl) C_is_row.m C_is_row.F.kp C_is_row.b (da_cons (d_var (pv 1)) (da_cons d_int (da_cons (d_glob (by rfl) g_MOST_FUNCTIONS) da_nil))))))))) (db_one (ds_ret d_bl)) db_nil)
    (db_one (ds_ret (d_and (d_callB (cr_all rfl) c_all (by rfl) T.t_all (by decide +kernel) (da_cons (d_lc (own := [("row", 2)]) sc_is_program_form.nd (di_seq (d_var (pv 0))) (blkOk_by (own := [("row", 2)]) (N := N_is_program_form) (sc := defScope s_is_program_form) (by decide +kernel)) (fun _ _ _ _ _ => (dg_name (pg_name (i := 2) sc_is_program_form.nd rfl (Or.inl rfl)))) (fun _ _ _ _ _ => dts_nil) (fun _ _ _ _ _ => (d_call G_is_kind_form (hr.mono (by omega)) (by rfl) C_is_kind_form.m C_is_kind_form.F.kp C_is_kind_form.b (da_cons (d_var (pv 2)) da_nil)))) da_nil)) (d_one (d_callB (cr_all rfl) c_all (by rfl) T.t_all (by decide +kernel) (da_cons (d_lc (own := [("row", 2)]) sc_is_program_form.nd (di_seq (d_var (pv 1))) (blkOk_by (own := [("row", 2)]) (N := N_is_program_form) (sc := defScope s_is_program_form) (by decide +kernel)) (fun _ _ _ _ _ => (dg_name (pg_name (i := 2) sc_is_program_form.nd rfl (Or.inl rfl)))) (fun _ _ _ _ _ => dts_nil) (fun _ _ _ _ _ => (d_call G_is_function_form (hr.mono (by omega)) (by rfl) C_is_function_form.m C_is_function_form.F.kp C_is_function_form.b (da_cons (d_var (pv 2)) da_nil)))) da_nil)))))))
abbrev s_signs_of : Stmt := top 47
abbrev N_signs_of : List Str := ["kinds", "functions", "signs", "kind", "makers", "maker", "parts", "function", "dues", "rules"]
abbrev P_signs_of : List Str := ["kinds", "functions"]
theorem sc_signs_of : FnScope N_signs_of P_signs_of (defScope s_signs_of) := ⟨rfl, rfl, rfl, by decide +kernel, rfl, by decide +kernel, by decide +kernel⟩
def l1_signs_of : Bd :=
  (sPut 2 (eVar 7) (eTup (aCons (eC (.str ("call" : Str))) (aCons (eVar 8) (aCons (eVar 3) aNil)))))
def l2_signs_of : Bd :=
  (sPut 2 (eVar 5) (eTup (aCons (eC (.str ("made" : Str))) (aCons (eVar 6) (aCons (eVar 3) aNil)))))
def l3_signs_of : Bd :=
  (sFor (iSeq (eVar 4)) (gT (gsC (gN 5) (gsC (gN 6) gsN))) (l2_signs_of))
def b_signs_of : Bd :=
  (bSeq (sSet 2 (eDc (iSeq (eC k_TRUTH_MAKERS)) (gT (gsC (gN 5) (gsC (gN 6) gsN))) tY (eVar 5) (eTup (aCons (eC (.str ("made" : Str))) (aCons (eVar 6) (aCons (eC k_TRUTH) aNil)))) [5, 6]))
  (bSeq (sFor (iSeq (eVar 0)) (gT (gsC (gN 3) (gsC (gN 4) gsN))) (l3_signs_of))
  (bSeq (sFor (iSeq (eVar 1)) (gT (gsC (gN 7) (gsC (gN 8) (gsC (gN 3) (gsC (gN 9) gsN))))) (l1_signs_of))
  (sRet (eVar 2)))))
theorem ok_signs_of {k : Nat} {a_signs_of : Addr} {d_signs_of : FuncData} (T : Bt mg) (C_signs_of : Cal K mg "signs_of" s_signs_of P_signs_of a_signs_of d_signs_of) (g_TRUTH_MAKERS : GlobD K mg "TRUTH_MAKERS" k_TRUTH_MAKERS) (g_TRUTH : GlobD K mg "TRUTH" k_TRUTH) :
    FnOk P w K mg base CX0 (k + 1) a_signs_of d_signs_of P_signs_of (spM ⟨K, dk⟩ W (fnA 2 10 (b_signs_of))) :=
  fn_ok [2] C_signs_of.F sc_signs_of rfl fun cdv A outer s H E R hr =>
    (db_cons (ds_setDc (i := 2) (own := [("maker", 5), ("parts", 6)]) sc_signs_of.nd rfl rfl (sw_trueD rfl rfl rfl (by decide +kernel)) (di_seq (d_glob (by rfl) g_TRUTH_MAKERS)) (blkOk_by (own := [("maker", 5), ("parts", 6)]) (N := N_signs_of) (sc := defScope s_signs_of) (by decide +kernel)) (fun _ _ _ _ _ => (dg_tup (dgs_cons (dg_name (pg_name (i := 5) sc_signs_of.nd rfl (Or.inl rfl))) (dgs_cons (dg_name (pg_name (i := 6) sc_signs_of.nd rfl (Or.inl rfl))) dgs_nil)))) (fun _ _ _ _ _ => dts_nil) (fun _ _ _ _ _ => (d_var (pv 5))) (fun _ _ _ _ _ => (d_tup (da_cons d_str (da_cons (d_var (pv 6)) (da_cons (d_glob (by rfl) g_TRUTH) da_nil))) (aCons_len (aCons_len (aCons_len aNil_len))))))
    (db_cons (ds_for (di_seq (d_var (pv 0))) (dg_tup (dgs_cons (dg_name (pg_name (i := 3) sc_signs_of.nd rfl (Or.inl rfl))) (dgs_cons (dg_name (pg_name (i := 4) sc_signs_of.nd rfl (Or.inl rfl))) dgs_nil))) (db_one (ds_for (di_seq (d_var (pv 4))) (dg_tup (dgs_cons (dg_name (pg_name (i := 5) sc_signs_of.nd rfl (Or.inl rfl))) (dgs_cons (dg_name (pg_name (i := 6) sc_signs_of.nd rfl (Or.inl rfl))) dgs_nil))) (db_one (ds_put hr.units (pv 2) (d_var (pv 5)) (d_tup (da_cons d_str (da_cons (d_var (pv 6)) (da_cons (d_var (pv 3)) da_nil))) (aCons_len (aCons_len (aCons_len aNil_len)))))))))
    (db_cons (ds_for (di_seq (d_var (pv 1))) (dg_tup (dgs_cons (dg_name (pg_name (i := 7) sc_signs_of.nd rfl (Or.inl rfl))) (dgs_cons (dg_name (pg_name (i := 8) sc_signs_of.nd rfl (Or.inl rfl))) (dgs_cons (dg_name (pg_name (i := 3) sc_signs_of.nd rfl (Or.inl rfl))) (dgs_cons (dg_name (pg_name (i := 9) sc_signs_of.nd rfl (Or.inl rfl))) dgs_nil))))) (db_one (ds_put hr.units (pv 2) (d_var (pv 7)) (d_tup (da_cons d_str (da_cons (d_var (pv 8)) (da_cons (d_var (pv 3)) da_nil))) (aCons_len (aCons_len (aCons_len aNil_len)))))))
    (db_one (ds_ret (d_var (pv 2)))))))
abbrev s_sign_of : Stmt := top 48
abbrev N_sign_of : List Str := ["signs", "node", "sign"]
abbrev P_sign_of : List Str := ["signs", "node"]
theorem sc_sign_of : FnScope N_sign_of P_sign_of (defScope s_sign_of) := ⟨rfl, rfl, rfl, by decide +kernel, rfl, by decide +kernel, by decide +kernel⟩
def b_sign_of : Bd :=
  (bSeq (sSet 2 (eGet (eVar 0) (e2 fDG (eVar 1) (eC (.int 1))) (eC .non)))
  (sRet (vIf (tAn (trB (e2 fIsNot (eVar 2) (eC .non))) (trB (e2 fEq (e2 fDG (eVar 2) (eC (.int 0))) (e2 fDG (eVar 1) (eC (.int 0)))))) (eVar 2) (eC .non))))
theorem ok_sign_of {k : Nat} {a_sign_of : Addr} {d_sign_of : FuncData} (T : Bt mg) (C_sign_of : Cal K mg "sign_of" s_sign_of P_sign_of a_sign_of d_sign_of) :
    FnOk P w K mg base CX0 (k + 1) a_sign_of d_sign_of P_sign_of (spM ⟨K, dk⟩ W (fnA 2 3 (b_sign_of))) :=
  fn_ok [] C_sign_of.F sc_sign_of rfl fun cdv A outer s H E R hr =>
    (db_cons (ds_set (i := 2) sc_sign_of.nd rfl (Or.inl rfl) (d_get1 hr.units (d_var (pv 0)) (d_ixD hr.units (d_var (pv 1)) d_int)))
    (db_one (ds_ret (d_if (dw_pt (dw_and (dt_isnot (d_var (pv 2)) d_non) (dw_and1 (dt_eq hr.units (d_ixD hr.units (d_var (pv 2)) d_int) (d_ixD hr.units (d_var (pv 1)) d_int))))) (d_var (pv 2)) d_non))))
abbrev s_uses_sign : Stmt := top 49
abbrev N_uses_sign : List Str := ["signs", "node", "due", "sign"]
abbrev P_uses_sign : List Str := ["signs", "node", "due"]
theorem sc_uses_sign : FnScope N_uses_sign P_uses_sign (defScope s_uses_sign) := ⟨rfl, rfl, rfl, by decide +kernel, rfl, by decide +kernel, by decide +kernel⟩
def b_uses_sign (c_sign_of : List D → M D) : Bd :=
  (bSeq (sSet 3 (eCall c_sign_of (aCons (eVar 0) (aCons (eVar 1) aNil))))
  (sRet (vAn (e2 fIsNot (eVar 3) (eC .non)) (vAn (e2 fEq (e2 fDG (eVar 3) (eC (.int 2))) (eVar 2)) (e2 fEq (eF (f1 fLen) (aCons (e2 fDG (eVar 3) (eC (.int 1))) aNil)) (eF (f1 fLen) (aCons (e2 fDG (eVar 1) (eC (.int 2))) aNil)))))))
theorem ok_uses_sign {k : Nat} {a_uses_sign : Addr} {d_uses_sign : FuncData} {a_sign_of : Addr} {d_sign_of : FuncData} {c_sign_of : List D → M D} (T : Bt mg) (C_uses_sign : Cal K mg "uses_sign" s_uses_sign P_uses_sign a_uses_sign d_uses_sign) (C_sign_of : Cal K mg "sign_of" s_sign_of P_sign_of a_sign_of d_sign_of) (G_sign_of : FnOk P w K mg base CX0 k a_sign_of d_sign_of P_sign_of (spM ⟨K, dk⟩ W c_sign_of)) :
    FnOk P w K mg base CX0 (k + 1) a_uses_sign d_uses_sign P_uses_sign (spM ⟨K, dk⟩ W (fnA 3 4 (b_uses_sign c_sign_of))) :=
  fn_ok [] C_uses_sign.F sc_uses_sign rfl fun cdv A outer s H E R hr =>
    (db_cons (ds_set (i := 3) sc_uses_sign.nd rfl (Or.inl rfl) (d_call G_sign_of (hr.mono (by omega)) (by rfl) C_sign_of.m C_sign_of.F.kp C_sign_of.b (da_cons (d_var (pv 0)) (da_cons (d_var (pv 1)) da_nil))))
    (db_one (ds_ret (d_and (d_isnot (d_var (pv 3)) d_non) (d_and (d_eq hr.units (d_ixD hr.units (d_var (pv 3)) d_int) (d_var (pv 2))) (d_one (d_eq hr.units (d_callB call_len (c_len rfl) (by rfl) T.t_len (by decide +kernel) (da_cons (d_ixD hr.units (d_var (pv 3)) d_int) da_nil)) (d_callB call_len (c_len rfl) (by rfl) T.t_len (by decide +kernel) (da_cons (d_ixD hr.units (d_var (pv 1)) d_int) da_nil)))))))))
abbrev s_kind_told : Stmt := top 50
abbrev N_kind_told : List Str := ["signs", "names", "saying", "node", "sign"]
abbrev P_kind_told : List Str := ["signs", "names", "saying"]
theorem sc_kind_told : FnScope N_kind_told P_kind_told (defScope s_kind_told) := ⟨rfl, rfl, rfl, by decide +kernel, rfl, by decide +kernel, by decide +kernel⟩
def l1_kind_told : Bd :=
  (sSet 3 (e2 fDG (eVar 3) (eC (.int 1))))
def b_kind_told (c_sign_of : List D → M D) : Bd :=
  (bSeq (sSet 3 (eVar 2))
  (bSeq (sWh (trB (e2 fEq (e2 fDG (eVar 3) (eC (.int 0))) (eC (.str ("either" : Str))))) (l1_kind_told))
  (bSeq (sIf (trB (e2 fEq (e2 fDG (eVar 3) (eC (.int 0))) (eC (.str ("same" : Str))))) (sRet (eC k_TRUTH)) bNil)
  (bSeq (sIf (trB (e2 fEq (e2 fDG (eVar 3) (eC (.int 0))) (eC (.str ("name" : Str))))) (sRet (eGet (eVar 1) (e2 fDG (eVar 3) (eC (.int 1))) (eC .non))) bNil)
  (bSeq (sSet 4 (eCall c_sign_of (aCons (eVar 0) (aCons (eVar 3) aNil))))
  (sRet (vIf (trB (e2 fIs (eVar 4) (eC .non))) (eC .non) (e2 fDG (eVar 4) (eC (.int 2))))))))))
theorem ok_kind_told {k : Nat} {a_kind_told : Addr} {d_kind_told : FuncData} {a_sign_of : Addr} {d_sign_of : FuncData} {c_sign_of : List D → M D} (T : Bt mg) (C_kind_told : Cal K mg "kind_told" s_kind_told P_kind_told a_kind_told d_kind_told) (C_sign_of : Cal K mg "sign_of" s_sign_of P_sign_of a_sign_of d_sign_of) (G_sign_of : FnOk P w K mg base CX0 k a_sign_of d_sign_of P_sign_of (spM ⟨K, dk⟩ W c_sign_of)) (g_TRUTH : GlobD K mg "TRUTH" k_TRUTH) :
    FnOk P w K mg base CX0 (k + 1) a_kind_told d_kind_told P_kind_told (spM ⟨K, dk⟩ W (fnA 3 5 (b_kind_told c_sign_of))) :=
  fn_ok [] C_kind_told.F sc_kind_told rfl fun cdv A outer s H E R hr =>
    (db_cons (ds_set (i := 3) sc_kind_told.nd rfl (Or.inl rfl) (d_var (pv 2)))
    (db_cons (ds_wh (dt_eq hr.units (d_ixD hr.units (d_var (pv 3)) d_int) d_str) (db_one (ds_set (i := 3) sc_kind_told.nd rfl (Or.inl rfl) (d_ixD hr.units (d_var (pv 3)) d_int))))
    (db_cons (ds_if (dt_eq hr.units (d_ixD hr.units (d_var (pv 3)) d_int) d_str) (db_one (ds_ret (d_glob (by rfl) g_TRUTH))) db_nil)
    (db_cons (ds_if (dt_eq hr.units (d_ixD hr.units (d_var (pv 3)) d_int) d_str) (db_one (ds_ret (d_get1 hr.units (d_var (pv 1)) (d_ixD hr.units (d_var (pv 3)) d_int)))) db_nil)
    (db_cons (ds_set (i := 4) sc_kind_told.nd rfl (Or.inl rfl) (d_call G_sign_of (hr.mono (by omega)) (by rfl) C_sign_of.m C_sign_of.F.kp C_sign_of.b (da_cons (d_var (pv 0)) (da_cons (d_var (pv 3)) da_nil))))
    (db_one (ds_ret (d_if (dt_is (d_var (pv 4)) d_non) d_non (d_ixD hr.units (d_var (pv 4)) d_int)))))))))
abbrev s_is_right : Stmt := top 51
abbrev N_is_right : List Str := ["signs", "names", "node", "due"]
abbrev P_is_right : List Str := ["signs", "names", "node", "due"]
theorem sc_is_right : FnScope N_is_right P_is_right (defScope s_is_right) := ⟨rfl, rfl, rfl, by decide +kernel, rfl, by decide +kernel, by decide +kernel⟩
def b_is_right (c_uses_sign : List D → M D) : Bd :=
  (bSeq (sIf (trB (e2 fEq (e2 fDG (eVar 2) (eC (.int 0))) (eC (.str ("name" : Str))))) (sRet (vAn (e2 fIsNot (eVar 3) (eC .non)) (e2 fEq (eGet (eVar 1) (e2 fDG (eVar 2) (eC (.int 1))) (eC .non)) (eVar 3)))) bNil)
  (bSeq (sIf (trB (e2 fEq (e2 fDG (eVar 2) (eC (.int 0))) (eC (.str ("same" : Str))))) (sRet (e2 fEq (eVar 3) (eC k_TRUTH))) bNil)
  (sRet (vOr (e2 fEq (e2 fDG (eVar 2) (eC (.int 0))) (eC (.str ("either" : Str)))) (eCall c_uses_sign (aCons (eVar 0) (aCons (eVar 2) (aCons (eVar 3) aNil))))))))
theorem ok_is_right {k : Nat} {a_is_right : Addr} {d_is_right : FuncData} {a_uses_sign : Addr} {d_uses_sign : FuncData} {c_uses_sign : List D → M D} (T : Bt mg) (C_is_right : Cal K mg "is_right" s_is_right P_is_right a_is_right d_is_right) (C_uses_sign : Cal K mg "uses_sign" s_uses_sign P_uses_sign a_uses_sign d_uses_sign) (G_uses_sign : FnOk P w K mg base CX0 k a_uses_sign d_uses_sign P_uses_sign (spM ⟨K, dk⟩ W c_uses_sign)) (g_TRUTH : GlobD K mg "TRUTH" k_TRUTH) :
    FnOk P w K mg base CX0 (k + 1) a_is_right d_is_right P_is_right (spM ⟨K, dk⟩ W (fnA 4 4 (b_is_right c_uses_sign))) :=
  fn_ok [] C_is_right.F sc_is_right rfl fun cdv A outer s H E R hr =>
    (db_cons (ds_if (dt_eq hr.units (d_ixD hr.units (d_var (pv 2)) d_int) d_str) (db_one (ds_ret (d_and (d_isnot (d_var (pv 3)) d_non) (d_one (d_eq hr.units (d_get1 hr.units (d_var (pv 1)) (d_ixD hr.units (d_var (pv 2)) d_int)) (d_var (pv 3))))))) db_nil)
    (db_cons (ds_if (dt_eq hr.units (d_ixD hr.units (d_var (pv 2)) d_int) d_str) (db_one (ds_ret (d_eq hr.units (d_var (pv 3)) (d_glob (by rfl) g_TRUTH)))) db_nil)
    (db_one (ds_ret (d_or (d_eq hr.units (d_ixD hr.units (d_var (pv 2)) d_int) d_str) (d_one (d_call G_uses_sign (hr.mono (by omega)) (by rfl) C_uses_sign.m C_uses_sign.F.kp C_uses_sign.b (da_cons (d_var (pv 0)) (da_cons (d_var (pv 2)) (da_cons (d_var (pv 3)) da_nil))))))))))
abbrev s_parts_due : Stmt := top 52
abbrev N_parts_due : List Str := ["signs", "names", "node", "due", "kind"]
abbrev P_parts_due : List Str := ["signs", "names", "node", "due"]
theorem sc_parts_due : FnScope N_parts_due P_parts_due (defScope s_parts_due) := ⟨rfl, rfl, rfl, by decide +kernel, rfl, by decide +kernel, by decide +kernel⟩
def b_parts_due (c_kind_told : List D → M D) : Bd :=
  (bSeq (sIf (trB (e2 fEq (e2 fDG (eVar 2) (eC (.int 0))) (eC (.str ("name" : Str))))) (sRet (eLst aNil)) bNil)
  (bSeq (sIf (trB (e2 fEq (e2 fDG (eVar 2) (eC (.int 0))) (eC (.str ("either" : Str))))) (sRet (eLst (aCons (eTup (aCons (e2 fDG (eVar 2) (eC (.int 1))) (aCons (eVar 3) aNil))) (aCons (eTup (aCons (e2 fDG (eVar 2) (eC (.int 2))) (aCons (eVar 3) aNil))) aNil)))) bNil)
  (bSeq (sIf (trB (e2 fEq (e2 fDG (eVar 2) (eC (.int 0))) (eC (.str ("same" : Str))))) (bSeq (sSet 4 (eCall c_kind_told (aCons (eVar 0) (aCons (eVar 1) (aCons (e2 fDG (eVar 2) (eC (.int 1))) aNil)))))
  (sRet (eLst (aCons (eTup (aCons (e2 fDG (eVar 2) (eC (.int 1))) (aCons (eVar 4) aNil))) (aCons (eTup (aCons (e2 fDG (eVar 2) (eC (.int 2))) (aCons (eVar 4) aNil))) aNil))))) bNil)
  (sRet (e2 fLZ (e2 fDG (eVar 2) (eC (.int 2))) (e2 fDG (e2 fDG (eVar 0) (e2 fDG (eVar 2) (eC (.int 1)))) (eC (.int 1))))))))
theorem ok_parts_due {k : Nat} {a_parts_due : Addr} {d_parts_due : FuncData} {a_kind_told : Addr} {d_kind_told : FuncData} {c_kind_told : List D → M D} (T : Bt mg) (C_parts_due : Cal K mg "parts_due" s_parts_due P_parts_due a_parts_due d_parts_due) (C_kind_told : Cal K mg "kind_told" s_kind_told P_kind_told a_kind_told d_kind_told) (G_kind_told : FnOk P w K mg base CX0 k a_kind_told d_kind_told P_kind_told (spM ⟨K, dk⟩ W c_kind_told)) :
    FnOk P w K mg base CX0 (k + 1) a_parts_due d_parts_due P_parts_due (spM ⟨K, dk⟩ W (fnA 4 5 (b_parts_due c_kind_told))) :=
  fn_ok [] C_parts_due.F sc_parts_due rfl fun cdv A outer s H E R hr =>
    (db_cons (ds_if (dt_eq hr.units (d_ixD hr.units (d_var (pv 2)) d_int) d_str) (db_one (ds_ret (d_lst da_nil aNil_len))) db_nil)
    (db_cons (ds_if (dt_eq hr.units (d_ixD hr.units (d_var (pv 2)) d_int) d_str) (db_one (ds_ret (d_lst (da_cons (d_tup (da_cons (d_ixD hr.units (d_var (pv 2)) d_int) (da_cons (d_var (pv 3)) da_nil)) (aCons_len (aCons_len aNil_len))) (da_cons (d_tup (da_cons (d_ixD hr.units (d_var (pv 2)) d_int) (da_cons (d_var (pv 3)) da_nil)) (aCons_len (aCons_len aNil_len))) da_nil)) (aCons_len (aCons_len aNil_len))))) db_nil)
    (db_cons (ds_if (dt_eq hr.units (d_ixD hr.units (d_var (pv 2)) d_int) d_str) (db_cons (ds_set (i := 4) sc_parts_due.nd rfl (Or.inl rfl) (d_call G_kind_told (hr.mono (by omega)) (by rfl) C_kind_told.m C_kind_told.F.kp C_kind_told.b (da_cons (d_var (pv 0)) (da_cons (d_var (pv 1)) (da_cons (d_ixD hr.units (d_var (pv 2)) d_int) da_nil)))))
    (db_one (ds_ret (d_lst (da_cons (d_tup (da_cons (d_ixD hr.units (d_var (pv 2)) d_int) (da_cons (d_var (pv 4)) da_nil)) (aCons_len (aCons_len aNil_len))) (da_cons (d_tup (da_cons (d_ixD hr.units (d_var (pv 2)) d_int) (da_cons (d_var (pv 4)) da_nil)) (aCons_len (aCons_len aNil_len))) da_nil)) (aCons_len (aCons_len aNil_len)))))) db_nil)
    (db_one (ds_ret (d_lz (d_ixD hr.units (d_var (pv 2)) d_int) (d_ixD hr.units (d_ixD hr.units (d_var (pv 0)) (d_ixD hr.units (d_var (pv 2)) d_int)) d_int) (by rfl) T.t_list (by rfl) T.t_zip))))))
abbrev s_below : Stmt := top 53
abbrev N_below : List Str := ["path", "parts", "rows", "at", "part", "due"]
abbrev P_below : List Str := ["path", "parts"]
theorem sc_below : FnScope N_below P_below (defScope s_below) := ⟨rfl, rfl, rfl, by decide +kernel, rfl, by decide +kernel, by decide +kernel⟩
def b_below : Sd → M D :=
  (bSeqO (sSet 2 (eLc (i1 fEnum (eVar 1)) (gT (gsC (gN 3) (gsC (gT (gsC (gN 4) (gsC (gN 5) gsN))) gsN))) tY (eTup (aCons (eTupS (aStar (eVar 0) (aCons (eVar 3) aNil))) (aCons (eVar 4) (aCons (eVar 5) aNil)))) [3, 4, 5]))
  (e1 fRev (eVar 2)))
theorem ok_below {k : Nat} {a_below : Addr} {d_below : FuncData} (T : Bt mg) (C_below : Cal K mg "below" s_below P_below a_below d_below) :
    FnOk P w K mg base CX0 (k + 1) a_below d_below P_below (spO ⟨K, dk⟩ W (fnO 2 6 (b_below))) :=
  fn_okO [] C_below.F sc_below rfl fun cdv A outer s H E R hr =>
    (dbo_cons (ds_setLc (i := 2) (own := [("at", 3), ("part", 4), ("due", 5)]) sc_below.nd rfl rfl (sw_true rfl rfl rfl (by decide +kernel)) (di_enum (d_var (pv 1)) (by rfl) T.t_enumerate) (blkOk_by (own := [("at", 3), ("part", 4), ("due", 5)]) (N := N_below) (sc := defScope s_below) (by decide +kernel)) (fun _ _ _ _ _ => (dg_tup (dgs_cons (dg_name (pg_name (i := 3) sc_below.nd rfl (Or.inl rfl))) (dgs_cons (dg_tup (dgs_cons (dg_name (pg_name (i := 4) sc_below.nd rfl (Or.inl rfl))) (dgs_cons (dg_name (pg_name (i := 5) sc_below.nd rfl (Or.inl rfl))) dgs_nil))) dgs_nil)))) (fun _ _ _ _ _ => dts_nil) (fun _ _ _ _ _ => (d_tup (da_cons (d_tupS (da_star (d_var (pv 0)) (da_cons (d_var (pv 3)) da_nil))) (da_cons (d_var (pv 4)) (da_cons (d_var (pv 5)) da_nil))) (aCons_len (aCons_len (aCons_len aNil_len))))))
    (dbo_ret (do_rev (d_var (pv 2)))))
abbrev s_wrong_path : Stmt := top 54
abbrev N_wrong_path : List Str := ["signs", "names", "saying", "due", "waiting", "path", "node", "kind"]
abbrev P_wrong_path : List Str := ["signs", "names", "saying", "due"]
theorem sc_wrong_path : FnScope N_wrong_path P_wrong_path (defScope s_wrong_path) := ⟨rfl, rfl, rfl, by decide +kernel, rfl, by decide +kernel, by decide +kernel⟩
def l1_wrong_path (c_is_right : List D → M D) (c_below : List D → M D) (c_parts_due : List D → M D) : Bd :=
  (bSeq (sPop 4 (gT (gsC (gN 5) (gsC (gN 6) (gsC (gN 7) gsN)))))
  (bSeq (sIf (tNt (trB (eCall c_is_right (aCons (eVar 0) (aCons (eVar 1) (aCons (eVar 6) (aCons (eVar 7) aNil))))))) (sRet (eVar 5)) bNil)
  (sExt 4 (eCall c_below (aCons (eVar 5) (aCons (eCall c_parts_due (aCons (eVar 0) (aCons (eVar 1) (aCons (eVar 6) (aCons (eVar 7) aNil))))) aNil))))))
def b_wrong_path (c_below : List D → M D) (c_parts_due : List D → M D) (c_is_right : List D → M D) : Bd :=
  (bSeq (sSet 4 (eLst (aCons (eTup (aCons (eTup aNil) (aCons (eVar 2) (aCons (eVar 3) aNil)))) aNil)))
  (bSeq (sWh (trB (eVar 4)) (l1_wrong_path c_is_right c_below c_parts_due))
  (sRet (eC .non))))
theorem ok_wrong_path {k : Nat} {a_wrong_path : Addr} {d_wrong_path : FuncData} {a_below : Addr} {d_below : FuncData} {c_below : List D → M D} {a_parts_due : Addr} {d_parts_due : FuncData} {c_parts_due : List D → M D} {a_is_right : Addr} {d_is_right : FuncData} {c_is_right : List D → M D} (T : Bt mg) (C_wrong_path : Cal K mg "wrong_path" s_wrong_path P_wrong_path a_wrong_path d_wrong_path) (C_below : Cal K mg "below" s_below P_below a_below d_below) (G_below : FnOk P w K mg base CX0 k a_below d_below P_below (spO ⟨K, dk⟩ W c_below)) (C_parts_due : Cal K mg "parts_due" s_parts_due P_parts_due a_parts_due d_parts_due) (G_parts_due : FnOk P w K mg base CX0 k a_parts_due d_parts_due P_parts_due (spM ⟨K, dk⟩ W c_parts_due)) (C_is_right : Cal K mg "is_right" s_is_right P_is_right a_is_right d_is_right) (G_is_right : FnOk P w K mg base CX0 k a_is_right d_is_right P_is_right (spM ⟨K, dk⟩ W c_is_right)) :
    FnOk P w K mg base CX0 (k + 1) a_wrong_path d_wrong_path P_wrong_path (spM ⟨K, dk⟩ W (fnA 4 8 (b_wrong_path c_below c_parts_due c_is_right))) :=
  fn_ok [4] C_wrong_path.F sc_wrong_path rfl fun cdv A outer s H E R hr =>
    (db_cons (ds_setO (i := 4) sc_wrong_path.nd rfl (Or.inl rfl) (do_lst (da_cons (d_tup (da_cons (d_tup da_nil aNil_len) (da_cons (d_var (pv 2)) (da_cons (d_var (pv 3)) da_nil))) (aCons_len (aCons_len (aCons_len aNil_len)))) da_nil) (aCons_len aNil_len)))
    (db_cons (ds_wh (dt_open (dt_tr (d_var (pv 4)))) (db_cons (ds_pop (pv 4) (dg_tup (dgs_cons (dg_name (pg_name (i := 5) sc_wrong_path.nd rfl (Or.inl rfl))) (dgs_cons (dg_name (pg_name (i := 6) sc_wrong_path.nd rfl (Or.inl rfl))) (dgs_cons (dg_name (pg_name (i := 7) sc_wrong_path.nd rfl (Or.inl rfl))) dgs_nil)))))
    (db_cons (ds_if (dt_not (dt_tr (d_call G_is_right (hr.mono (by omega)) (by rfl) C_is_right.m C_is_right.F.kp C_is_right.b (da_cons (d_var (pv 0)) (da_cons (d_var (pv 1)) (da_cons (d_var (pv 6)) (da_cons (d_var (pv 7)) da_nil))))))) (db_one (ds_ret (d_var (pv 5)))) db_nil)
    (db_one (ds_ext (pv 4) (d_call (spO_M G_below) (hr.mono (by omega)) (by rfl) C_below.m C_below.F.kp C_below.b (da_cons (d_var (pv 5)) (da_cons (d_call G_parts_due (hr.mono (by omega)) (by rfl) C_parts_due.m C_parts_due.F.kp C_parts_due.b (da_cons (d_var (pv 0)) (da_cons (d_var (pv 1)) (da_cons (d_var (pv 6)) (da_cons (d_var (pv 7)) da_nil))))) da_nil))))))))
    (db_one (ds_ret d_non))))
abbrev s_left_side : Stmt := top 55
abbrev N_left_side : List Str := ["signs", "left", "dues", "names", "waiting", "path", "node", "kind"]
abbrev P_left_side : List Str := ["signs", "left", "dues"]
theorem sc_left_side : FnScope N_left_side P_left_side (defScope s_left_side) := ⟨rfl, rfl, rfl, by decide +kernel, rfl, by decide +kernel, by decide +kernel⟩
def l1_left_side (c_uses_sign : List D → M D) (c_below : List D → M D) : Bd :=
  (bSeq (sPop 4 (gT (gsC (gN 5) (gsC (gN 6) (gsC (gN 7) gsN)))))
  (sIf (tAn (trB (e2 fEq (e2 fDG (eVar 6) (eC (.int 0))) (eC (.str ("name" : Str))))) (tAn (trB (e2 fNotInD (e2 fDG (eVar 6) (eC (.int 1))) (eVar 3))) (trB (e2 fNotInD (e2 fDG (eVar 6) (eC (.int 1))) (eVar 0))))) (sPut 3 (e2 fDG (eVar 6) (eC (.int 1))) (eVar 7)) (sIf (tAn (trB (e2 fEq (e2 fDG (eVar 6) (eC (.int 0))) (eC (.str ("made" : Str))))) (trB (eCall c_uses_sign (aCons (eVar 0) (aCons (eVar 6) (aCons (eVar 7) aNil)))))) (sExt 4 (eCall c_below (aCons (eVar 5) (aCons (e2 fLZ (e2 fDG (eVar 6) (eC (.int 2))) (e2 fDG (e2 fDG (eVar 0) (e2 fDG (eVar 6) (eC (.int 1)))) (eC (.int 1)))) aNil)))) (sRet (eTup (aCons (eVar 3) (aCons (eVar 5) aNil)))))))
def b_left_side (c_uses_sign : List D → M D) (c_below : List D → M D) : Bd :=
  (bSeq (sSet 3 (eC (.dk [] [])))
  (bSeq (sSet 4 (eCall c_below (aCons (eTup aNil) (aCons (e2 fLZ (eVar 1) (eVar 2)) aNil))))
  (bSeq (sWh (trB (eVar 4)) (l1_left_side c_uses_sign c_below))
  (sRet (eTup (aCons (eVar 3) (aCons (eC .non) aNil)))))))
theorem ok_left_side {k : Nat} {a_left_side : Addr} {d_left_side : FuncData} {a_uses_sign : Addr} {d_uses_sign : FuncData} {c_uses_sign : List D → M D} {a_below : Addr} {d_below : FuncData} {c_below : List D → M D} (T : Bt mg) (C_left_side : Cal K mg "left_side" s_left_side P_left_side a_left_side d_left_side) (C_uses_sign : Cal K mg "uses_sign" s_uses_sign P_uses_sign a_uses_sign d_uses_sign) (G_uses_sign : FnOk P w K mg base CX0 k a_uses_sign d_uses_sign P_uses_sign (spM ⟨K, dk⟩ W c_uses_sign)) (C_below : Cal K mg "below" s_below P_below a_below d_below) (G_below : FnOk P w K mg base CX0 k a_below d_below P_below (spO ⟨K, dk⟩ W c_below)) :
    FnOk P w K mg base CX0 (k + 1) a_left_side d_left_side P_left_side (spM ⟨K, dk⟩ W (fnA 3 8 (b_left_side c_uses_sign c_below))) :=
  fn_ok [3, 4] C_left_side.F sc_left_side rfl fun cdv A outer s H E R hr =>
    (db_cons (ds_setO (i := 3) sc_left_side.nd rfl (Or.inl rfl) do_dict0)
    (db_cons (ds_setO (i := 4) sc_left_side.nd rfl (Or.inl rfl) (do_call G_below (hr.mono (by omega)) (by rfl) C_below.m C_below.F.kp C_below.b (da_cons (d_tup da_nil aNil_len) (da_cons (d_lz (d_var (pv 1)) (d_var (pv 2)) (by rfl) T.t_list (by rfl) T.t_zip) da_nil))))
    (db_cons (ds_wh (dt_open (dt_tr (d_var (pv 4)))) (db_cons (ds_pop (pv 4) (dg_tup (dgs_cons (dg_name (pg_name (i := 5) sc_left_side.nd rfl (Or.inl rfl))) (dgs_cons (dg_name (pg_name (i := 6) sc_left_side.nd rfl (Or.inl rfl))) (dgs_cons (dg_name (pg_name (i := 7) sc_left_side.nd rfl (Or.inl rfl))) dgs_nil)))))
    (db_one (ds_if (dt_open (dw_pt (dw_and (dt_eq hr.units (d_ixD hr.units (d_var (pv 6)) d_int) d_str) (dw_and (dt_notinD hr.units (d_ixD hr.units (d_var (pv 6)) d_int) (d_var (pv 3))) (dw_and1 (dt_notinD hr.units (d_ixD hr.units (d_var (pv 6)) d_int) (d_var (pv 0)))))))) (db_one (ds_put hr.units (pv 3) (d_ixD hr.units (d_var (pv 6)) d_int) (d_var (pv 7)))) (db_one (ds_if (dw_pt (dw_and (dt_eq hr.units (d_ixD hr.units (d_var (pv 6)) d_int) d_str) (dw_and1 (dt_tr (d_call G_uses_sign (hr.mono (by omega)) (by rfl) C_uses_sign.m C_uses_sign.F.kp C_uses_sign.b (da_cons (d_var (pv 0)) (da_cons (d_var (pv 6)) (da_cons (d_var (pv 7)) da_nil)))))))) (db_one (ds_ext (pv 4) (d_call (spO_M G_below) (hr.mono (by omega)) (by rfl) C_below.m C_below.F.kp C_below.b (da_cons (d_var (pv 5)) (da_cons (d_lz (d_ixD hr.units (d_var (pv 6)) d_int) (d_ixD hr.units (d_ixD hr.units (d_var (pv 0)) (d_ixD hr.units (d_var (pv 6)) d_int)) d_int) (by rfl) T.t_list (by rfl) T.t_zip) da_nil))))) (db_one (ds_ret (d_tup (da_cons (d_var (pv 3)) (da_cons (d_var (pv 5)) da_nil)) (aCons_len (aCons_len aNil_len)))))))))))
    (db_one (ds_ret (d_tup (da_cons (d_var (pv 3)) (da_cons d_non da_nil)) (aCons_len (aCons_len aNil_len))))))))
abbrev s_are_among : Stmt := top 59
abbrev N_are_among : List Str := ["names", "there", "name"]
abbrev P_are_among : List Str := ["names", "there"]
theorem sc_are_among : FnScope N_are_among P_are_among (defScope s_are_among) := ⟨rfl, rfl, rfl, by decide +kernel, rfl, by decide +kernel, by decide +kernel⟩
def b_are_among : Bd :=
  (sRet (eF (f1 fAll) (aCons (eLc (iSeq (eVar 0)) (gN 2) tY (e2 fInD (eVar 2) (eVar 1)) [2]) aNil)))
theorem ok_are_among {k : Nat} {a_are_among : Addr} {d_are_among : FuncData} (T : Bt mg) (C_are_among : Cal K mg "are_among" s_are_among P_are_among a_are_among d_are_among) :
    FnOk P w K mg base CX0 (k + 1) a_are_among d_are_among P_are_among (spM ⟨K, dk⟩ W (fnA 2 3 (b_are_among))) :=
  fn_ok [] C_are_among.F sc_are_among rfl fun cdv A outer s H E R hr =>
    (db_one (ds_ret (d_callB (cr_all rfl) c_all (by rfl) T.t_all (by decide +kernel) (da_cons (d_lc (own := [("name", 2)]) sc_are_among.nd (di_seq (d_var (pv 0))) (blkOk_by (own := [("name", 2)]) (N := N_are_among) (sc := defScope s_are_among) (by decide +kernel)) (fun _ _ _ _ _ => (dg_name (pg_name (i := 2) sc_are_among.nd rfl (Or.inl rfl)))) (fun _ _ _ _ _ => dts_nil) (fun _ _ _ _ _ => (d_inD hr.units (d_var (pv 2)) (d_var (pv 1))))) da_nil))))
abbrev s_kinds_there : Stmt := top 60
abbrev N_kinds_there : List Str := ["kinds", "kind", "makers"]
abbrev P_kinds_there : List Str := ["kinds"]
theorem sc_kinds_there : FnScope N_kinds_there P_kinds_there (defScope s_kinds_there) := ⟨rfl, rfl, rfl, by decide +kernel, rfl, by decide +kernel, by decide +kernel⟩
def b_kinds_there : Bd :=
  (sRet (e2 fAdd (eLst (aCons (eC k_TRUTH) aNil)) (eLc (iSeq (eVar 0)) (gT (gsC (gN 1) (gsC (gN 2) gsN))) tY (eVar 1) [1, 2])))
theorem ok_kinds_there {k : Nat} {a_kinds_there : Addr} {d_kinds_there : FuncData} (T : Bt mg) (C_kinds_there : Cal K mg "kinds_there" s_kinds_there P_kinds_there a_kinds_there d_kinds_there) (g_TRUTH : GlobD K mg "TRUTH" k_TRUTH) :
    FnOk P w K mg base CX0 (k + 1) a_kinds_there d_kinds_there P_kinds_there (spM ⟨K, dk⟩ W (fnA 1 3 (b_kinds_there))) :=
  fn_ok [] C_kinds_there.F sc_kinds_there rfl fun cdv A outer s H E R hr =>
    (db_one (ds_ret (d_add (d_lst (da_cons (d_glob (by rfl) g_TRUTH) da_nil) (aCons_len aNil_len)) (d_lc (own := [("kind", 1), ("makers", 2)]) sc_kinds_there.nd (di_seq (d_var (pv 0))) (blkOk_by (own := [("kind", 1), ("makers", 2)]) (N := N_kinds_there) (sc := defScope s_kinds_there) (by decide +kernel)) (fun _ _ _ _ _ => (dg_tup (dgs_cons (dg_name (pg_name (i := 1) sc_kinds_there.nd rfl (Or.inl rfl))) (dgs_cons (dg_name (pg_name (i := 2) sc_kinds_there.nd rfl (Or.inl rfl))) dgs_nil)))) (fun _ _ _ _ _ => dts_nil) (fun _ _ _ _ _ => (d_var (pv 1)))))))
abbrev s_repeated_kind : Stmt := top 61
abbrev N_repeated_kind : List Str := ["kinds", "known", "at", "kind", "makers"]
abbrev P_repeated_kind : List Str := ["kinds"]
theorem sc_repeated_kind : FnScope N_repeated_kind P_repeated_kind (defScope s_repeated_kind) := ⟨rfl, rfl, rfl, by decide +kernel, rfl, by decide +kernel, by decide +kernel⟩
def l1_repeated_kind : Bd :=
  (bSeq (sIf (trB (e2 fInD (eVar 3) (eVar 1))) (sRet (eTup (aCons (eC (.str ("kind" : Str))) (aCons (eVar 2) aNil)))) bNil)
  (sApp 1 (eVar 3)))
def b_repeated_kind : Bd :=
  (bSeq (sSet 1 (eLst aNil))
  (bSeq (sFor (i1 fEnum (eVar 0)) (gT (gsC (gN 2) (gsC (gT (gsC (gN 3) (gsC (gN 4) gsN))) gsN))) (l1_repeated_kind))
  (sRet (eC .non))))
theorem ok_repeated_kind {k : Nat} {a_repeated_kind : Addr} {d_repeated_kind : FuncData} (T : Bt mg) (C_repeated_kind : Cal K mg "repeated_kind" s_repeated_kind P_repeated_kind a_repeated_kind d_repeated_kind) :
    FnOk P w K mg base CX0 (k + 1) a_repeated_kind d_repeated_kind P_repeated_kind (spM ⟨K, dk⟩ W (fnA 1 5 (b_repeated_kind))) :=
  fn_ok [1] C_repeated_kind.F sc_repeated_kind rfl fun cdv A outer s H E R hr =>
    (db_cons (ds_setO (i := 1) sc_repeated_kind.nd rfl (Or.inl rfl) (do_lst da_nil aNil_len))
    (db_cons (ds_for (di_enum (d_var (pv 0)) (by rfl) T.t_enumerate) (dg_tup (dgs_cons (dg_name (pg_name (i := 2) sc_repeated_kind.nd rfl (Or.inl rfl))) (dgs_cons (dg_tup (dgs_cons (dg_name (pg_name (i := 3) sc_repeated_kind.nd rfl (Or.inl rfl))) (dgs_cons (dg_name (pg_name (i := 4) sc_repeated_kind.nd rfl (Or.inl rfl))) dgs_nil))) dgs_nil))) (db_cons (ds_if (dt_open (dt_inD hr.units (d_var (pv 3)) (d_var (pv 1)))) (db_one (ds_ret (d_tup (da_cons d_str (da_cons (d_var (pv 2)) da_nil)) (aCons_len (aCons_len aNil_len))))) db_nil)
    (db_one (ds_app (pv 1) (d_var (pv 3))))))
    (db_one (ds_ret d_non))))
abbrev s_wrong_maker : Stmt := top 62
abbrev N_wrong_maker : List Str := ["kinds", "there", "known", "at", "kind", "makers", "which", "maker", "parts"]
abbrev P_wrong_maker : List Str := ["kinds"]
theorem sc_wrong_maker : FnScope N_wrong_maker P_wrong_maker (defScope s_wrong_maker) := ⟨rfl, rfl, rfl, by decide +kernel, rfl, by decide +kernel, by decide +kernel⟩
def l1_wrong_maker (c_are_among : List D → M D) : Bd :=
  (bSeq (sIf (tOr' (trB (e2 fInD (eVar 7) (eVar 2))) (tNt (trB (eCall c_are_among (aCons (eVar 8) (aCons (eVar 1) aNil)))))) (sRet (eTup (aCons (eC (.str ("maker" : Str))) (aCons (eVar 3) (aCons (eVar 6) aNil))))) bNil)
  (sApp 2 (eVar 7)))
def l2_wrong_maker (c_are_among : List D → M D) : Bd :=
  (sFor (i1 fEnum (eVar 5)) (gT (gsC (gN 6) (gsC (gT (gsC (gN 7) (gsC (gN 8) gsN))) gsN))) (l1_wrong_maker c_are_among))
def b_wrong_maker (c_are_among : List D → M D) (c_kinds_there : List D → M D) : Bd :=
  (bSeq (sSet 1 (eCall c_kinds_there (aCons (eVar 0) aNil)))
  (bSeq (sSet 2 (eLc (iSeq (eC k_TRUTH_MAKERS)) (gT (gsC (gN 7) (gsC (gN 8) gsN))) tY (eVar 7) [7, 8]))
  (bSeq (sFor (i1 fEnum (eVar 0)) (gT (gsC (gN 3) (gsC (gT (gsC (gN 4) (gsC (gN 5) gsN))) gsN))) (l2_wrong_maker c_are_among))
  (sRet (eC .non)))))
theorem ok_wrong_maker {k : Nat} {a_wrong_maker : Addr} {d_wrong_maker : FuncData} {a_are_among : Addr} {d_are_among : FuncData} {c_are_among : List D → M D} {a_kinds_there : Addr} {d_kinds_there : FuncData} {c_kinds_there : List D → M D} (T : Bt mg) (C_wrong_maker : Cal K mg "wrong_maker" s_wrong_maker P_wrong_maker a_wrong_maker d_wrong_maker) (C_are_among : Cal K mg "are_among" s_are_among P_are_among a_are_among d_are_among) (G_are_among : FnOk P w K mg base CX0 k a_are_among d_are_among P_are_among (spM ⟨K, dk⟩ W c_are_among)) (C_kinds_there : Cal K mg "kinds_there" s_kinds_there P_kinds_there a_kinds_there d_kinds_there) (G_kinds_there : FnOk P w K mg base CX0 k a_kinds_there d_kinds_there P_kinds_there (spM ⟨K, dk⟩ W c_kinds_there)) (g_TRUTH_MAKERS : GlobD K mg "TRUTH_MAKERS" k_TRUTH_MAKERS) :
    FnOk P w K mg base CX0 (k + 1) a_wrong_maker d_wrong_maker P_wrong_maker (spM ⟨K, dk⟩ W (fnA 1 9 (b_wrong_maker c_are_among c_kinds_there))) :=
  fn_ok [2] C_wrong_maker.F sc_wrong_maker rfl fun cdv A outer s H E R hr =>
    (db_cons (ds_set (i := 1) sc_wrong_maker.nd rfl (Or.inl rfl) (d_call G_kinds_there (hr.mono (by omega)) (by rfl) C_kinds_there.m C_kinds_there.F.kp C_kinds_there.b (da_cons (d_var (pv 0)) da_nil)))
    (db_cons (ds_setLc (i := 2) (own := [("maker", 7), ("parts", 8)]) sc_wrong_maker.nd rfl rfl (sw_true rfl rfl rfl (by decide +kernel)) (di_seq (d_glob (by rfl) g_TRUTH_MAKERS)) (blkOk_by (own := [("maker", 7), ("parts", 8)]) (N := N_wrong_maker) (sc := defScope s_wrong_maker) (by decide +kernel)) (fun _ _ _ _ _ => (dg_tup (dgs_cons (dg_name (pg_name (i := 7) sc_wrong_maker.nd rfl (Or.inl rfl))) (dgs_cons (dg_name (pg_name (i := 8) sc_wrong_maker.nd rfl (Or.inl rfl))) dgs_nil)))) (fun _ _ _ _ _ => dts_nil) (fun _ _ _ _ _ => (d_var (pv 7))))
    (db_cons (ds_for (di_enum (d_var (pv 0)) (by rfl) T.t_enumerate) (dg_tup (dgs_cons (dg_name (pg_name (i := 3) sc_wrong_maker.nd rfl (Or.inl rfl))) (dgs_cons (dg_tup (dgs_cons (dg_name (pg_name (i := 4) sc_wrong_maker.nd rfl (Or.inl rfl))) (dgs_cons (dg_name (pg_name (i := 5) sc_wrong_maker.nd rfl (Or.inl rfl))) dgs_nil))) dgs_nil))) (db_one (ds_for (di_enum (d_var (pv 5)) (by rfl) T.t_enumerate) (dg_tup (dgs_cons (dg_name (pg_name (i := 6) sc_wrong_maker.nd rfl (Or.inl rfl))) (dgs_cons (dg_tup (dgs_cons (dg_name (pg_name (i := 7) sc_wrong_maker.nd rfl (Or.inl rfl))) (dgs_cons (dg_name (pg_name (i := 8) sc_wrong_maker.nd rfl (Or.inl rfl))) dgs_nil))) dgs_nil))) (db_cons (ds_if (dt_open (dw_pt (dw_or (dt_inD hr.units (d_var (pv 7)) (d_var (pv 2))) (dw_or1 (dt_not (dt_tr (d_call G_are_among (hr.mono (by omega)) (by rfl) C_are_among.m C_are_among.F.kp C_are_among.b (da_cons (d_var (pv 8)) (da_cons (d_var (pv 1)) da_nil))))))))) (db_one (ds_ret (d_tup (da_cons d_str (da_cons (d_var (pv 3)) (da_cons (d_var (pv 6)) da_nil))) (aCons_len (aCons_len (aCons_len aNil_len)))))) db_nil)
    (db_one (ds_app (pv 2) (d_var (pv 7))))))))
    (db_one (ds_ret d_non)))))
abbrev s_kinds_with_things : Stmt := top 63
abbrev N_kinds_with_things : List Str := ["kinds", "found", "step", "kind", "makers", "maker", "parts"]
abbrev P_kinds_with_things : List Str := ["kinds"]
theorem sc_kinds_with_things : FnScope N_kinds_with_things P_kinds_with_things (defScope s_kinds_with_things) := ⟨rfl, rfl, rfl, by decide +kernel, rfl, by decide +kernel, by decide +kernel⟩
def l1_kinds_with_things (c_are_among : List D → M D) : Bd :=
  (sIf (tAn (trB (e2 fNotInD (eVar 3) (eVar 1))) (trB (eF (f1 fAny) (aCons (eLc (iSeq (eVar 4)) (gT (gsC (gN 5) (gsC (gN 6) gsN))) tY (eCall c_are_among (aCons (eVar 6) (aCons (eVar 1) aNil))) [5, 6]) aNil)))) (sApp 1 (eVar 3)) bNil)
def l2_kinds_with_things (c_are_among : List D → M D) : Bd :=
  (sFor (iSeq (eVar 0)) (gT (gsC (gN 3) (gsC (gN 4) gsN))) (l1_kinds_with_things c_are_among))
def b_kinds_with_things (c_are_among : List D → M D) : Bd :=
  (bSeq (sSet 1 (eLst (aCons (eC k_TRUTH) aNil)))
  (bSeq (sFor (i1 fR1 (eF (f1 fLen) (aCons (eVar 0) aNil))) (gN 2) (l2_kinds_with_things c_are_among))
  (sRet (eVar 1))))
theorem ok_kinds_with_things {k : Nat} {a_kinds_with_things : Addr} {d_kinds_with_things : FuncData} {a_are_among : Addr} {d_are_among : FuncData} {c_are_among : List D → M D} (T : Bt mg) (C_kinds_with_things : Cal K mg "kinds_with_things" s_kinds_with_things P_kinds_with_things a_kinds_with_things d_kinds_with_things) (C_are_among : Cal K mg "are_among" s_are_among P_are_among a_are_among d_are_among) (G_are_among : FnOk P w K mg base CX0 k a_are_among d_are_among P_are_among (spM ⟨K, dk⟩ W c_are_among)) (g_TRUTH : GlobD K mg "TRUTH" k_TRUTH) :
    FnOk P w K mg base CX0 (k + 1) a_kinds_with_things d_kinds_with_things P_kinds_with_things (spM ⟨K, dk⟩ W (fnA 1 7 (b_kinds_with_things c_are_among))) :=
  fn_ok [1] C_kinds_with_things.F sc_kinds_with_things rfl fun cdv A outer s H E R hr =>
    (db_cons (ds_setO (i := 1) sc_kinds_with_things.nd rfl (Or.inr rfl) (do_lst (da_cons (d_glob (by rfl) g_TRUTH) da_nil) (aCons_len aNil_len)))
    (db_cons (ds_for (di_r1 (d_callB call_len (c_len rfl) (by rfl) T.t_len (by decide +kernel) (da_cons (d_var (pv 0)) da_nil)) (by rfl) T.t_range) (dg_name (pg_name (i := 2) sc_kinds_with_things.nd rfl (Or.inl rfl))) (db_one (ds_for (di_seq (d_var (pv 0))) (dg_tup (dgs_cons (dg_name (pg_name (i := 3) sc_kinds_with_things.nd rfl (Or.inl rfl))) (dgs_cons (dg_name (pg_name (i := 4) sc_kinds_with_things.nd rfl (Or.inl rfl))) dgs_nil))) (db_one (ds_if (dt_open (dw_pt (dw_and (dt_notinD hr.units (d_var (pv 3)) (d_var (pv 1))) (dw_and1 (dt_tr (d_callB (cr_any rfl) c_any (by rfl) T.t_any (by decide +kernel) (da_cons (d_lc (own := [("maker", 5), ("parts", 6)]) sc_kinds_with_things.nd (di_seq (d_var (pv 4))) (blkOk_by (own := [("maker", 5), ("parts", 6)]) (N := N_kinds_with_things) (sc := defScope s_kinds_with_things) (by decide +kernel)) (fun _ _ _ _ _ => (dg_tup (dgs_cons (dg_name (pg_name (i := 5) sc_kinds_with_things.nd rfl (Or.inl rfl))) (dgs_cons (dg_name (pg_name (i := 6) sc_kinds_with_things.nd rfl (Or.inl rfl))) dgs_nil)))) (fun _ _ _ _ _ => dts_nil) (fun _ _ _ _ _ => (d_call G_are_among (hr.mono (by omega)) (by rfl) C_are_among.m C_are_among.F.kp C_are_among.b (da_cons (d_var (pv 6)) (da_cons (d_var (pv 1)) da_nil))))) da_nil))))))) (db_one (ds_app (pv 1) (d_var (pv 3)))) db_nil)))))
    (db_one (ds_ret (d_var (pv 1))))))
abbrev s_empty_kind : Stmt := top 64
abbrev N_empty_kind : List Str := ["kinds", "found", "at", "kind", "makers"]
abbrev P_empty_kind : List Str := ["kinds"]
theorem sc_empty_kind : FnScope N_empty_kind P_empty_kind (defScope s_empty_kind) := ⟨rfl, rfl, rfl, by decide +kernel, rfl, by decide +kernel, by decide +kernel⟩
def l1_empty_kind : Bd :=
  (sIf (trB (e2 fNotInD (eVar 3) (eVar 1))) (sRet (eTup (aCons (eC (.str ("empty" : Str))) (aCons (eVar 2) aNil)))) bNil)
def b_empty_kind (c_kinds_with_things : List D → M D) : Bd :=
  (bSeq (sSet 1 (eCall c_kinds_with_things (aCons (eVar 0) aNil)))
  (bSeq (sFor (i1 fEnum (eVar 0)) (gT (gsC (gN 2) (gsC (gT (gsC (gN 3) (gsC (gN 4) gsN))) gsN))) (l1_empty_kind))
  (sRet (eC .non))))
theorem ok_empty_kind {k : Nat} {a_empty_kind : Addr} {d_empty_kind : FuncData} {a_kinds_with_things : Addr} {d_kinds_with_things : FuncData} {c_kinds_with_things : List D → M D} (T : Bt mg) (C_empty_kind : Cal K mg "empty_kind" s_empty_kind P_empty_kind a_empty_kind d_empty_kind) (C_kinds_with_things : Cal K mg "kinds_with_things" s_kinds_with_things P_kinds_with_things a_kinds_with_things d_kinds_with_things) (G_kinds_with_things : FnOk P w K mg base CX0 k a_kinds_with_things d_kinds_with_things P_kinds_with_things (spM ⟨K, dk⟩ W c_kinds_with_things)) :
    FnOk P w K mg base CX0 (k + 1) a_empty_kind d_empty_kind P_empty_kind (spM ⟨K, dk⟩ W (fnA 1 5 (b_empty_kind c_kinds_with_things))) :=
  fn_ok [] C_empty_kind.F sc_empty_kind rfl fun cdv A outer s H E R hr =>
    (db_cons (ds_set (i := 1) sc_empty_kind.nd rfl (Or.inl rfl) (d_call G_kinds_with_things (hr.mono (by omega)) (by rfl) C_kinds_with_things.m C_kinds_with_things.F.kp C_kinds_with_things.b (da_cons (d_var (pv 0)) da_nil)))
    (db_cons (ds_for (di_enum (d_var (pv 0)) (by rfl) T.t_enumerate) (dg_tup (dgs_cons (dg_name (pg_name (i := 2) sc_empty_kind.nd rfl (Or.inl rfl))) (dgs_cons (dg_tup (dgs_cons (dg_name (pg_name (i := 3) sc_empty_kind.nd rfl (Or.inl rfl))) (dgs_cons (dg_name (pg_name (i := 4) sc_empty_kind.nd rfl (Or.inl rfl))) dgs_nil))) dgs_nil))) (db_one (ds_if (dt_notinD hr.units (d_var (pv 3)) (d_var (pv 1))) (db_one (ds_ret (d_tup (da_cons d_str (da_cons (d_var (pv 2)) da_nil)) (aCons_len (aCons_len aNil_len))))) db_nil)))
    (db_one (ds_ret d_non))))
abbrev s_wrong_function : Stmt := top 65
abbrev N_wrong_function : List Str := ["kinds", "functions", "there", "known", "at", "function", "dues", "kind", "rules"]
abbrev P_wrong_function : List Str := ["kinds", "functions"]
theorem sc_wrong_function : FnScope N_wrong_function P_wrong_function (defScope s_wrong_function) := ⟨rfl, rfl, rfl, by decide +kernel, rfl, by decide +kernel, by decide +kernel⟩
def l1_wrong_function (c_are_among : List D → M D) : Bd :=
  (bSeq (sIf (tOr' (trB (e2 fInD (eVar 5) (eVar 3))) (tNt (trB (eCall c_are_among (aCons (eTupS (aStar (eVar 6) (aCons (eVar 7) aNil))) (aCons (eVar 2) aNil)))))) (sRet (eTup (aCons (eC (.str ("def" : Str))) (aCons (eVar 4) aNil)))) bNil)
  (sApp 3 (eVar 5)))
def b_wrong_function (c_are_among : List D → M D) (c_signs_of : List D → M D) (c_kinds_there : List D → M D) : Bd :=
  (bSeq (sSet 2 (eCall c_kinds_there (aCons (eVar 0) aNil)))
  (bSeq (sSet 3 (eF (f1 fListD) (aCons (eCall c_signs_of (aCons (eVar 0) (aCons (eTup aNil) aNil))) aNil)))
  (bSeq (sFor (i1 fEnum (eVar 1)) (gT (gsC (gN 4) (gsC (gT (gsC (gN 5) (gsC (gN 6) (gsC (gN 7) (gsC (gN 8) gsN))))) gsN))) (l1_wrong_function c_are_among))
  (sRet (eC .non)))))
theorem ok_wrong_function {k : Nat} {a_wrong_function : Addr} {d_wrong_function : FuncData} {a_are_among : Addr} {d_are_among : FuncData} {c_are_among : List D → M D} {a_signs_of : Addr} {d_signs_of : FuncData} {c_signs_of : List D → M D} {a_kinds_there : Addr} {d_kinds_there : FuncData} {c_kinds_there : List D → M D} (T : Bt mg) (C_wrong_function : Cal K mg "wrong_function" s_wrong_function P_wrong_function a_wrong_function d_wrong_function) (C_are_among : Cal K mg "are_among" s_are_among P_are_among a_are_among d_are_among) (G_are_among : FnOk P w K mg base CX0 k a_are_among d_are_among P_are_among (spM ⟨K, dk⟩ W c_are_among)) (C_signs_of : Cal K mg "signs_of" s_signs_of P_signs_of a_signs_of d_signs_of) (G_signs_of : FnOk P w K mg base CX0 k a_signs_of d_signs_of P_signs_of (spM ⟨K, dk⟩ W c_signs_of)) (C_kinds_there : Cal K mg "kinds_there" s_kinds_there P_kinds_there a_kinds_there d_kinds_there) (G_kinds_there : FnOk P w K mg base CX0 k a_kinds_there d_kinds_there P_kinds_there (spM ⟨K, dk⟩ W c_kinds_there)) :
    FnOk P w K mg base CX0 (k + 1) a_wrong_function d_wrong_function P_wrong_function (spM ⟨K, dk⟩ W (fnA 2 9 (b_wrong_function c_are_among c_signs_of c_kinds_there))) :=
  fn_ok [3] C_wrong_function.F sc_wrong_function rfl fun cdv A outer s H E R hr =>
    (db_cons (ds_set (i := 2) sc_wrong_function.nd rfl (Or.inl rfl) (d_call G_kinds_there (hr.mono (by omega)) (by rfl) C_kinds_there.m C_kinds_there.F.kp C_kinds_there.b (da_cons (d_var (pv 0)) da_nil)))
    (db_cons (ds_setO (i := 3) sc_wrong_function.nd rfl (Or.inl rfl) (do_list (d_call G_signs_of (hr.mono (by omega)) (by rfl) C_signs_of.m C_signs_of.F.kp C_signs_of.b (da_cons (d_var (pv 0)) (da_cons (d_tup da_nil aNil_len) da_nil))) (by rfl) T.t_list (by decide +kernel)))
    (db_cons (ds_for (di_enum (d_var (pv 1)) (by rfl) T.t_enumerate) (dg_tup (dgs_cons (dg_name (pg_name (i := 4) sc_wrong_function.nd rfl (Or.inl rfl))) (dgs_cons (dg_tup (dgs_cons (dg_name (pg_name (i := 5) sc_wrong_function.nd rfl (Or.inl rfl))) (dgs_cons (dg_name (pg_name (i := 6) sc_wrong_function.nd rfl (Or.inl rfl))) (dgs_cons (dg_name (pg_name (i := 7) sc_wrong_function.nd rfl (Or.inl rfl))) (dgs_cons (dg_name (pg_name (i := 8) sc_wrong_function.nd rfl (Or.inl rfl))) dgs_nil))))) dgs_nil))) (db_cons (ds_if (dt_open (dw_pt (dw_or (dt_inD hr.units (d_var (pv 5)) (d_var (pv 3))) (dw_or1 (dt_not (dt_tr (d_call G_are_among (hr.mono (by omega)) (by rfl) C_are_among.m C_are_among.F.kp C_are_among.b (da_cons (d_tupS (da_star (d_var (pv 6)) (da_cons (d_var (pv 7)) da_nil))) (da_cons (d_var (pv 2)) da_nil))))))))) (db_one (ds_ret (d_tup (da_cons d_str (da_cons (d_var (pv 4)) da_nil)) (aCons_len (aCons_len aNil_len))))) db_nil)
    (db_one (ds_app (pv 3) (d_var (pv 5))))))
    (db_one (ds_ret d_non)))))
abbrev s_has_overused_name : Stmt := top 68
abbrev N_has_overused_name : List Str := ["saying", "uses", "path", "node", "name"]
abbrev P_has_overused_name : List Str := ["saying"]
theorem sc_has_overused_name : FnScope N_has_overused_name P_has_overused_name (defScope s_has_overused_name) := ⟨rfl, rfl, rfl, by decide +kernel, rfl, by decide +kernel, by decide +kernel⟩
def b_has_overused_name (c_nodes_of : List D → M D) : Bd :=
  (bSeq (sSet 1 (eLc (iSeq (eCall c_nodes_of (aCons (eVar 0) aNil))) (gT (gsC (gN 2) (gsC (gN 3) gsN))) (trB (e2 fEq (e2 fDG (eVar 3) (eC (.int 0))) (eC (.str ("name" : Str))))) (e2 fDG (eVar 3) (eC (.int 1))) [2, 3]))
  (sRet (eF (f1 fAny) (aCons (eLc (iSeq (eVar 1)) (gN 4) tY (e2 fGt eNo (eC k_MOST_USES)) [4]) aNil))))
theorem ok_has_overused_name {k : Nat} {a_has_overused_name : Addr} {d_has_overused_name : FuncData} {a_nodes_of : Addr} {d_nodes_of : FuncData} {c_nodes_of : List D → M D} (T : Bt mg) (C_has_overused_name : Cal K mg "has_overused_name" s_has_overused_name P_has_overused_name a_has_overused_name d_has_overused_name) (C_nodes_of : Cal K mg "nodes_of" s_nodes_of P_nodes_of a_nodes_of d_nodes_of) (G_nodes_of : FnOk P w K mg base CX0 k a_nodes_of d_nodes_of P_nodes_of (spM ⟨K, dk⟩ W c_nodes_of)) (g_MOST_USES : GlobD K mg "MOST_USES" k_MOST_USES) :
    FnOk P w K mg base CX0 (k + 1) a_has_overused_name d_has_overused_name P_has_overused_name (spM ⟨K, dk⟩ W (fnA 1 5 (b_has_overused_name c_nodes_of))) :=
  fn_ok [] C_has_overused_name.F sc_has_overused_name rfl fun cdv A outer s H E R hr =>
    (db_cons (ds_set (i := 1) sc_has_overused_name.nd rfl (Or.inr rfl) (d_lc (own := [("path", 2), ("node", 3)]) sc_has_overused_name.nd (di_seq (d_call G_nodes_of (hr.mono (by omega)) (by rfl) C_nodes_of.m C_nodes_of.F.kp C_nodes_of.b (da_cons (d_var (pv 0)) da_nil))) (blkOk_by (own := [("path", 2), ("node", 3)]) (N := N_has_overused_name) (sc := defScope s_has_overused_name) (by decide +kernel)) (fun _ _ _ _ _ => (dg_tup (dgs_cons (dg_name (pg_name (i := 2) sc_has_overused_name.nd rfl (Or.inl rfl))) (dgs_cons (dg_name (pg_name (i := 3) sc_has_overused_name.nd rfl (Or.inl rfl))) dgs_nil)))) (fun _ _ _ _ _ => (dts_one (dt_eq hr.units (d_ixD hr.units (d_var (pv 3)) d_int) d_str))) (fun _ _ _ _ _ => (d_ixD hr.units (d_var (pv 3)) d_int))))
    (db_one (ds_ret (d_callB (cr_any rfl) c_any (by rfl) T.t_any (by decide +kernel) (da_cons (d_lc (own := [("name", 4)]) sc_has_overused_name.nd (di_seq (d_var (pv 1))) (blkOk_by (own := [("name", 4)]) (N := N_has_overused_name) (sc := defScope s_has_overused_name) (by decide +kernel)) (fun _ _ _ _ _ => (dg_name (pg_name (i := 4) sc_has_overused_name.nd rfl (Or.inl rfl)))) (fun _ _ _ _ _ => dts_nil) (fun _ _ _ _ _ => (d_gt d_no (d_glob (by rfl) g_MOST_USES)))) da_nil)))))
abbrev s_wrong_side : Stmt := top 67
abbrev N_wrong_side : List Str := ["signs", "dues", "kind", "left", "right", "names", "path"]
abbrev P_wrong_side : List Str := ["signs", "dues", "kind", "left", "right"]
theorem sc_wrong_side : FnScope N_wrong_side P_wrong_side (defScope s_wrong_side) := ⟨rfl, rfl, rfl, by decide +kernel, rfl, by decide +kernel, by decide +kernel⟩
def b_wrong_side (c_has_overused_name : List D → M D) (c_wrong_path : List D → M D) (c_left_side : List D → M D) : Bd :=
  (bSeq (sIf (trB (e2 fNe (eF (f1 fLen) (aCons (eVar 3) aNil)) (eF (f1 fLen) (aCons (eVar 1) aNil)))) (sRet (eTup (aCons (eC (.str ("left" : Str))) (aCons (eTup aNil) aNil)))) bNil)
  (bSeq (sAsg (eCall c_left_side (aCons (eVar 0) (aCons (eVar 3) (aCons (eVar 1) aNil)))) (gT (gsC (gN 5) (gsC (gN 6) gsN))))
  (bSeq (sIf (trB (e2 fIsNot (eVar 6) (eC .non))) (sRet (eTup (aCons (eC (.str ("left" : Str))) (aCons (eVar 6) aNil)))) bNil)
  (bSeq (sSet 6 (eCall c_wrong_path (aCons (eVar 0) (aCons (eVar 5) (aCons (eVar 4) (aCons (eVar 2) aNil))))))
  (bSeq (sIf (trB (e2 fIsNot (eVar 6) (eC .non))) (sRet (eTup (aCons (eC (.str ("right" : Str))) (aCons (eVar 6) aNil)))) bNil)
  (bSeq (sIf (trB (eCall c_has_overused_name (aCons (eVar 4) aNil))) (sRet (eTup (aCons (eC (.str ("right" : Str))) (aCons (eTup aNil) aNil)))) bNil)
  (sRet (eTup (aCons (eC .non) (aCons (eC .non) aNil))))))))))
theorem ok_wrong_side {k : Nat} {a_wrong_side : Addr} {d_wrong_side : FuncData} {a_has_overused_name : Addr} {d_has_overused_name : FuncData} {c_has_overused_name : List D → M D} {a_wrong_path : Addr} {d_wrong_path : FuncData} {c_wrong_path : List D → M D} {a_left_side : Addr} {d_left_side : FuncData} {c_left_side : List D → M D} (T : Bt mg) (C_wrong_side : Cal K mg "wrong_side" s_wrong_side P_wrong_side a_wrong_side d_wrong_side) (C_has_overused_name : Cal K mg "has_overused_name" s_has_overused_name P_has_overused_name a_has_overused_name d_has_overused_name) (G_has_overused_name : FnOk P w K mg base CX0 k a_has_overused_name d_has_overused_name P_has_overused_name (spM ⟨K, dk⟩ W c_has_overused_name)) (C_wrong_path : Cal K mg "wrong_path" s_wrong_path P_wrong_path a_wrong_path d_wrong_path) (G_wrong_path : FnOk P w K mg base CX0 k a_wrong_path d_wrong_path P_wrong_path (spM ⟨K, dk⟩ W c_wrong_path)) (C_left_side : Cal K mg "left_side" s_left_side P_left_side a_left_side d_left_side) (G_left_side : FnOk P w K mg base CX0 k a_left_side d_left_side P_left_side (spM ⟨K, dk⟩ W c_left_side)) :
    FnOk P w K mg base CX0 (k + 1) a_wrong_side d_wrong_side P_wrong_side (spM ⟨K, dk⟩ W (fnA 5 7 (b_wrong_side c_has_overused_name c_wrong_path c_left_side))) :=
  fn_ok [] C_wrong_side.F sc_wrong_side rfl fun cdv A outer s H E R hr =>
    (db_cons (ds_if (dt_ne hr.units (d_callB call_len (c_len rfl) (by rfl) T.t_len (by decide +kernel) (da_cons (d_var (pv 3)) da_nil)) (d_callB call_len (c_len rfl) (by rfl) T.t_len (by decide +kernel) (da_cons (d_var (pv 1)) da_nil))) (db_one (ds_ret (d_tup (da_cons d_str (da_cons (d_tup da_nil aNil_len) da_nil)) (aCons_len (aCons_len aNil_len))))) db_nil)
    (db_cons (ds_asg (d_call G_left_side (hr.mono (by omega)) (by rfl) C_left_side.m C_left_side.F.kp C_left_side.b (da_cons (d_var (pv 0)) (da_cons (d_var (pv 3)) (da_cons (d_var (pv 1)) da_nil)))) (dg_tup (dgs_cons (dg_name (pg_name (i := 5) sc_wrong_side.nd rfl (Or.inl rfl))) (dgs_cons (dg_name (pg_name (i := 6) sc_wrong_side.nd rfl (Or.inl rfl))) dgs_nil))))
    (db_cons (ds_if (dt_isnot (d_var (pv 6)) d_non) (db_one (ds_ret (d_tup (da_cons d_str (da_cons (d_var (pv 6)) da_nil)) (aCons_len (aCons_len aNil_len))))) db_nil)
    (db_cons (ds_set (i := 6) sc_wrong_side.nd rfl (Or.inl rfl) (d_call G_wrong_path (hr.mono (by omega)) (by rfl) C_wrong_path.m C_wrong_path.F.kp C_wrong_path.b (da_cons (d_var (pv 0)) (da_cons (d_var (pv 5)) (da_cons (d_var (pv 4)) (da_cons (d_var (pv 2)) da_nil))))))
    (db_cons (ds_if (dt_isnot (d_var (pv 6)) d_non) (db_one (ds_ret (d_tup (da_cons d_str (da_cons (d_var (pv 6)) da_nil)) (aCons_len (aCons_len aNil_len))))) db_nil)
    (db_cons (ds_if (dt_tr (d_call G_has_overused_name (hr.mono (by omega)) (by rfl) C_has_overused_name.m C_has_overused_name.F.kp C_has_overused_name.b (da_cons (d_var (pv 4)) da_nil))) (db_one (ds_ret (d_tup (da_cons d_str (da_cons (d_tup da_nil aNil_len) da_nil)) (aCons_len (aCons_len aNil_len))))) db_nil)
    (db_one (ds_ret (d_tup (da_cons d_non (da_cons d_non da_nil)) (aCons_len (aCons_len aNil_len)))))))))))
abbrev s_wrong_rule : Stmt := top 66
abbrev N_wrong_rule : List Str := ["kinds", "functions", "signs", "at", "function", "dues", "kind", "rules", "which", "left", "right", "side", "path"]
abbrev P_wrong_rule : List Str := ["kinds", "functions"]
theorem sc_wrong_rule : FnScope N_wrong_rule P_wrong_rule (defScope s_wrong_rule) := ⟨rfl, rfl, rfl, by decide +kernel, rfl, by decide +kernel, by decide +kernel⟩
def l1_wrong_rule (c_wrong_side : List D → M D) : Bd :=
  (bSeq (sAsg (eCall c_wrong_side (aCons (eVar 2) (aCons (eVar 5) (aCons (eVar 6) (aCons (eVar 9) (aCons (eVar 10) aNil)))))) (gT (gsC (gN 11) (gsC (gN 12) gsN))))
  (sIf (trB (e2 fIsNot (eVar 11) (eC .non))) (sRet (eTup (aCons (eVar 11) (aCons (eVar 3) (aCons (eVar 8) (aCons (eVar 12) aNil)))))) bNil))
def l2_wrong_rule (c_wrong_side : List D → M D) : Bd :=
  (sFor (i1 fEnum (eVar 7)) (gT (gsC (gN 8) (gsC (gT (gsC (gN 9) (gsC (gN 10) gsN))) gsN))) (l1_wrong_rule c_wrong_side))
def b_wrong_rule (c_wrong_side : List D → M D) (c_signs_of : List D → M D) : Bd :=
  (bSeq (sSet 2 (eCall c_signs_of (aCons (eVar 0) (aCons (eVar 1) aNil))))
  (bSeq (sFor (i1 fEnum (eVar 1)) (gT (gsC (gN 3) (gsC (gT (gsC (gN 4) (gsC (gN 5) (gsC (gN 6) (gsC (gN 7) gsN))))) gsN))) (l2_wrong_rule c_wrong_side))
  (sRet (eC .non))))
theorem ok_wrong_rule {k : Nat} {a_wrong_rule : Addr} {d_wrong_rule : FuncData} {a_wrong_side : Addr} {d_wrong_side : FuncData} {c_wrong_side : List D → M D} {a_signs_of : Addr} {d_signs_of : FuncData} {c_signs_of : List D → M D} (T : Bt mg) (C_wrong_rule : Cal K mg "wrong_rule" s_wrong_rule P_wrong_rule a_wrong_rule d_wrong_rule) (C_wrong_side : Cal K mg "wrong_side" s_wrong_side P_wrong_side a_wrong_side d_wrong_side) (G_wrong_side : FnOk P w K mg base CX0 k a_wrong_side d_wrong_side P_wrong_side (spM ⟨K, dk⟩ W c_wrong_side)) (C_signs_of : Cal K mg "signs_of" s_signs_of P_signs_of a_signs_of d_signs_of) (G_signs_of : FnOk P w K mg base CX0 k a_signs_of d_signs_of P_signs_of (spM ⟨K, dk⟩ W c_signs_of)) :
    FnOk P w K mg base CX0 (k + 1) a_wrong_rule d_wrong_rule P_wrong_rule (spM ⟨K, dk⟩ W (fnA 2 13 (b_wrong_rule c_wrong_side c_signs_of))) :=
  fn_ok [] C_wrong_rule.F sc_wrong_rule rfl fun cdv A outer s H E R hr =>
    (db_cons (ds_set (i := 2) sc_wrong_rule.nd rfl (Or.inl rfl) (d_call G_signs_of (hr.mono (by omega)) (by rfl) C_signs_of.m C_signs_of.F.kp C_signs_of.b (da_cons (d_var (pv 0)) (da_cons (d_var (pv 1)) da_nil))))
    (db_cons (ds_for (di_enum (d_var (pv 1)) (by rfl) T.t_enumerate) (dg_tup (dgs_cons (dg_name (pg_name (i := 3) sc_wrong_rule.nd rfl (Or.inl rfl))) (dgs_cons (dg_tup (dgs_cons (dg_name (pg_name (i := 4) sc_wrong_rule.nd rfl (Or.inl rfl))) (dgs_cons (dg_name (pg_name (i := 5) sc_wrong_rule.nd rfl (Or.inl rfl))) (dgs_cons (dg_name (pg_name (i := 6) sc_wrong_rule.nd rfl (Or.inl rfl))) (dgs_cons (dg_name (pg_name (i := 7) sc_wrong_rule.nd rfl (Or.inl rfl))) dgs_nil))))) dgs_nil))) (db_one (ds_for (di_enum (d_var (pv 7)) (by rfl) T.t_enumerate) (dg_tup (dgs_cons (dg_name (pg_name (i := 8) sc_wrong_rule.nd rfl (Or.inl rfl))) (dgs_cons (dg_tup (dgs_cons (dg_name (pg_name (i := 9) sc_wrong_rule.nd rfl (Or.inl rfl))) (dgs_cons (dg_name (pg_name (i := 10) sc_wrong_rule.nd rfl (Or.inl rfl))) dgs_nil))) dgs_nil))) (db_cons (ds_asg (d_call G_wrong_side (hr.mono (by omega)) (by rfl) C_wrong_side.m C_wrong_side.F.kp C_wrong_side.b (da_cons (d_var (pv 2)) (da_cons (d_var (pv 5)) (da_cons (d_var (pv 6)) (da_cons (d_var (pv 9)) (da_cons (d_var (pv 10)) da_nil)))))) (dg_tup (dgs_cons (dg_name (pg_name (i := 11) sc_wrong_rule.nd rfl (Or.inl rfl))) (dgs_cons (dg_name (pg_name (i := 12) sc_wrong_rule.nd rfl (Or.inl rfl))) dgs_nil))))
    (db_one (ds_if (dt_isnot (d_var (pv 11)) d_non) (db_one (ds_ret (d_tup (da_cons (d_var (pv 11)) (da_cons (d_var (pv 3)) (da_cons (d_var (pv 8)) (da_cons (d_var (pv 12)) da_nil)))) (aCons_len (aCons_len (aCons_len (aCons_len aNil_len))))))) db_nil))))))
    (db_one (ds_ret d_non))))
abbrev s_first_wrong_place : Stmt := top 58
abbrev N_first_wrong_place : List Str := ["kinds", "functions", "place"]
abbrev P_first_wrong_place : List Str := ["kinds", "functions"]
theorem sc_first_wrong_place : FnScope N_first_wrong_place P_first_wrong_place (defScope s_first_wrong_place) := ⟨rfl, rfl, rfl, by decide +kernel, rfl, by decide +kernel, by decide +kernel⟩
def b_first_wrong_place (c_wrong_rule : List D → M D) (c_wrong_function : List D → M D) (c_empty_kind : List D → M D) (c_wrong_maker : List D → M D) (c_repeated_kind : List D → M D) (c_is_program_form : List D → M D) : Bd :=
  (bSeq (sIf (tNt (trB (eCall c_is_program_form (aCons (eVar 0) (aCons (eVar 1) aNil))))) (sRet (eTup aNil)) bNil)
  (bSeq (sSet 2 (eCall c_repeated_kind (aCons (eVar 0) aNil)))
  (bSeq (sIf (trB (e2 fIs (eVar 2) (eC .non))) (sSet 2 (eCall c_wrong_maker (aCons (eVar 0) aNil))) bNil)
  (bSeq (sIf (trB (e2 fIs (eVar 2) (eC .non))) (sSet 2 (eCall c_empty_kind (aCons (eVar 0) aNil))) bNil)
  (bSeq (sIf (trB (e2 fIs (eVar 2) (eC .non))) (sSet 2 (eCall c_wrong_function (aCons (eVar 0) (aCons (eVar 1) aNil)))) bNil)
  (bSeq (sIf (trB (e2 fIs (eVar 2) (eC .non))) (sSet 2 (eCall c_wrong_rule (aCons (eVar 0) (aCons (eVar 1) aNil)))) bNil)
  (sRet (eVar 2))))))))
theorem ok_first_wrong_place {k : Nat} {a_first_wrong_place : Addr} {d_first_wrong_place : FuncData} {a_wrong_rule : Addr} {d_wrong_rule : FuncData} {c_wrong_rule : List D → M D} {a_wrong_function : Addr} {d_wrong_function : FuncData} {c_wrong_function : List D → M D} {a_empty_kind : Addr} {d_empty_kind : FuncData} {c_empty_kind : List D → M D} {a_wrong_maker : Addr} {d_wrong_maker : FuncData} {c_wrong_maker : List D → M D} {a_repeated_kind : Addr} {d_repeated_kind : FuncData} {c_repeated_kind : List D → M D} {a_is_program_form : Addr} {d_is_program_form : FuncData} {c_is_program_form : List D → M D} (T : Bt mg) (C_first_wrong_place : Cal K mg "first_wrong_place" s_first_wrong_place P_first_wrong_place a_first_wrong_place d_first_wrong_place) (C_wrong_rule : Cal K mg "wrong_rule" s_wrong_rule P_wrong_rule a_wrong_rule d_wrong_rule) (G_wrong_rule : FnOk P w K mg base CX0 k a_wrong_rule d_wrong_rule P_wrong_rule (spM ⟨K, dk⟩ W c_wrong_rule)) (C_wrong_function : Cal K mg "wrong_function" s_wrong_function P_wrong_function a_wrong_function d_wrong_function) (G_wrong_function : FnOk P w K mg base CX0 k a_wrong_function d_wrong_function P_wrong_function (spM ⟨K, dk⟩ W c_wrong_function)) (C_empty_kind : Cal K mg "empty_kind" s_empty_kind P_empty_kind a_empty_kind d_empty_kind) (G_empty_kind : FnOk P w K mg base CX0 k a_empty_kind d_empty_kind P_empty_kind (spM ⟨K, dk⟩ W c_empty_kind)) (C_wrong_maker : Cal K mg "wrong_maker" s_wrong_maker P_wrong_maker a_wrong_maker d_wrong_maker) (G_wrong_maker : FnOk P w K mg base CX0 k a_wrong_maker d_wrong_maker P_wrong_maker (spM ⟨K, dk⟩ W c_wrong_maker)) (C_repeated_kind : Cal K mg "repeated_kind" s_repeated_kind P_repeated_kind a_repeated_kind d_repeated_kind) (G_repeated_kind : FnOk P w K mg base CX0 k a_repeated_kind d_repeated_kind P_repeated_kind (spM ⟨K, dk⟩ W c_repeated_kind)) (C_is_program_form : Cal K mg "is_program_form" s_is_program_form P_is_program_form a_is_program_form d_is_program_form) (G_is_program_form : FnOk P w K mg base CX0 k a_is_program_form d_is_program_form P_is_program_form (spM ⟨K, dk⟩ W c_is_program_form)) :
    FnOk P w K mg base CX0 (k + 1) a_first_wrong_place d_first_wrong_place P_first_wrong_place (spM ⟨K, dk⟩ W (fnA 2 3 (b_first_wrong_place c_wrong_rule c_wrong_function c_empty_kind c_wrong_maker c_repeated_kind c_is_program_form))) :=
  fn_ok [] C_first_wrong_place.F sc_first_wrong_place rfl fun cdv A outer s H E R hr =>
    (db_cons (ds_if (dt_not (dt_tr (d_call G_is_program_form (hr.mono (by omega)) (by rfl) C_is_program_form.m C_is_program_form.F.kp C_is_program_form.b (da_cons (d_var (pv 0)) (da_cons (d_var (pv 1)) da_nil))))) (db_one (ds_ret (d_tup da_nil aNil_len))) db_nil)
    (db_cons (ds_set (i := 2) sc_first_wrong_place.nd rfl (Or.inl rfl) (d_call G_repeated_kind (hr.mono (by omega)) (by rfl) C_repeated_kind.m C_repeated_kind.F.kp C_repeated_kind.b (da_cons (d_var (pv 0)) da_nil)))
    (db_cons (ds_if (dt_is (d_var (pv 2)) d_non) (db_one (ds_set (i := 2) sc_first_wrong_place.nd rfl (Or.inl rfl) (d_call G_wrong_maker (hr.mono (by omega)) (by rfl) C_wrong_maker.m C_wrong_maker.F.kp C_wrong_maker.b (da_cons (d_var (pv 0)) da_nil)))) db_nil)
    (db_cons (ds_if (dt_is (d_var (pv 2)) d_non) (db_one (ds_set (i := 2) sc_first_wrong_place.nd rfl (Or.inl rfl) (d_call G_empty_kind (hr.mono (by omega)) (by rfl) C_empty_kind.m C_empty_kind.F.kp C_empty_kind.b (da_cons (d_var (pv 0)) da_nil)))) db_nil)
    (db_cons (ds_if (dt_is (d_var (pv 2)) d_non) (db_one (ds_set (i := 2) sc_first_wrong_place.nd rfl (Or.inl rfl) (d_call G_wrong_function (hr.mono (by omega)) (by rfl) C_wrong_function.m C_wrong_function.F.kp C_wrong_function.b (da_cons (d_var (pv 0)) (da_cons (d_var (pv 1)) da_nil))))) db_nil)
    (db_cons (ds_if (dt_is (d_var (pv 2)) d_non) (db_one (ds_set (i := 2) sc_first_wrong_place.nd rfl (Or.inl rfl) (d_call G_wrong_rule (hr.mono (by omega)) (by rfl) C_wrong_rule.m C_wrong_rule.F.kp C_wrong_rule.b (da_cons (d_var (pv 0)) (da_cons (d_var (pv 1)) da_nil))))) db_nil)
    (db_one (ds_ret (d_var (pv 2))))))))))
end Sh


set_option Elab.async false
set_option linter.all false
set_option maxRecDepth 100000
/-! the deck of the earlier laws, as a world -/
namespace Sh
open PySem L2 Nf
def aG (cs : List Int) (i : Int) : Int := (L2.atI cs i).getD 0
theorem aG_at {cs : List Int} {i : Int} (h0 : 0 ≤ i) (h1 : i < cs.length) : L2.atI (cs.map V.int) i = some (.int (aG cs i)) ∧ aG cs i ∈ cs := by
  have hk : i.toNat < cs.length := by omega
  have e : L2.atI cs i = some cs[i.toNat] := by
    unfold L2.atI ixN
    rw [if_pos h0, if_pos h1]
    exact List.getElem?_eq_getElem hk
  have e2 : aG cs i = cs[i.toNat] := by unfold aG; rw [e]; rfl
  refine ⟨?_, by rw [e2]; exact List.getElem_mem hk⟩
  rw [e2]
  exact at_of (j := i.toNat) (by omega) (by rw [List.getElem?_map, List.getElem?_eq_getElem hk]; rfl)
structure DkO (H : Hp) (d g c : Addr) (ds cs : List Int) (k : Nat) : Prop where
  ne1 : d ≠ g
  ne2 : d ≠ c
  ne3 : g ≠ c
  hd : H d = some (.lst [.ref g, .ref c, .int k])
  hg : H g = some (.lst (ds.map V.int))
  hc : H c = some (.lst (cs.map V.int))
  ds : ∀ x ∈ ds, 0 ≤ x ∧ x < MM
  l0 : 0 < cs.length
  l1 : cs.length ≤ 64
  cs : ∀ x ∈ cs, 0 ≤ x ∧ x < MM
def oV (cs : List Int) (k : Nat) : Int := ((aG cs (((k : Int) + 1) % cs.length) + 7 * k + 48271 * ((k : Int) + 1)) ^ (5 : Int).toNat % 2147483647 + 69621 * (aG cs (((k : Int) + 1) % cs.length) + 7 * k)) % 2147483629
def nV (ds cs : List Int) (k : Nat) : Int := match ds with
  | x :: _ => x
  | [] => oV cs k
def nK (ds : List Int) (k : Nat) : Nat := match ds with
  | _ :: _ => k
  | [] => k + 1
section
variable {P : Program} {w : World} {K : PySem.W.Frag} {mg : Str → Option Value} {base : Heap} {f fn : Addr} {fd fnd : FuncData}
/-! ### the deck made -/
abbrev s_deck : Stmt := top 79
abbrev N_deck : List Str := ["_law_script", "_law_digits", "_law_cells", "_law_cell"]
abbrev P_deck : List Str := ["_law_script"]
theorem sc_deck : FnScope N_deck P_deck (defScope s_deck) := ⟨rfl, rfl, rfl, by decide +kernel, rfl, by decide +kernel, by decide +kernel⟩
def spDeck (K : PySem.W.Frag) : Sp := fun vs H Q _ => ∃ (a : Addr) (ns : List Int), vs = [.ref a] ∧ SqL K H a (ns.map V.int) ∧ ns.length ≤ 63 ∧
  ∀ d g c ds cs H', DkO H' d g c ds cs 0 → Same H H' → H d = none → H g = none → H c = none → Q (.ref d) H'
theorem ok_deck (T : Bt mg) (C_deck : Cal K mg "_law_deck" s_deck P_deck f fd) : FnOk P w K mg base CX0 1 f fd P_deck (spDeck K) := by
  refine C_deck.F.ok sc_deck (fun vs H Q E h => ?_) (fun cdv A outer s H vs Q E hr h => ?_)
  · obtain ⟨a, ns, rfl, _⟩ := h
    rfl
  obtain ⟨a, ns, rfl, hS, h63, q⟩ := h
  refine ⟨_, PSs.nox (pss_cons (ps_set (i := 1) sc_deck.nd rfl (Or.inl rfl) (pe_lst pa_nil))
    (pss_cons (ps_set (i := 2) sc_deck.nd rfl (Or.inl rfl) (pe_lst (pa_cons (pe_callB call_len_seq (by rfl) T.t_len (by decide +kernel) (pa_cons (pv 0) pa_nil)) pa_nil)))
    (pss_cons (ps_for PassesOwn.never (by rfl) (pi_list (pe_slice sl_list (pv 0) po_none (po_some pe_int))) (pg_name (i := 3) sc_deck.nd rfl (Or.inl rfl)) (pss_cons (ps_set (i := 3) sc_deck.nd rfl (Or.inl rfl) (pe_callB call_abs (by rfl) T.t_abs (by decide +kernel) (pa_cons (pv 3) pa_nil)))
    (pss_cons (ps_expr (pe_bm PySem.F.plainAttrs_list PySem.F.slot_list_append PySem.F.type_list_append mt_append (pv 2) (pa_cons (pe_op op_mod (pv 3) pe_int) pa_nil)))
    (pss_one (ps_while PassesOwn.never (PW.pt (pw_and (pt_cmpR op_ge (pv 3) (pe_op op_pow pe_int pe_int) (nomark _)) (pw_and1 (pt_cmpR op_lt (pe_callB call_len_seq (by rfl) T.t_len (by decide +kernel) (pa_cons (pv 1) pa_nil)) pe_int (nomark _))))) (pss_cons (ps_expr (pe_bm PySem.F.plainAttrs_list PySem.F.slot_list_append PySem.F.type_list_append mt_append (pv 1) (pa_cons (pe_op op_mod (pv 3) pe_int) pa_nil)))
    (pss_one (ps_set (i := 3) sc_deck.nd rfl (Or.inl rfl) (pe_op op_fdivW (pv 3) pe_int)))))))))
    (pss_one (ps_ret (pe_lst (pa_cons (pv 1) (pa_cons (pv 2) (pa_cons pe_int pa_nil))))))))), ?_⟩
  have hl : (ns.map V.int).length = ns.length := List.length_map _
  refine ⟨by show 0 ≤ sizeLine; decide, fun g hg => ?_⟩
  have S1 := same_new hg (.lst [])
  refine ⟨_, rfl, a, _, rfl, .inl (S1.seq hS), by show 1 ≤ sizeLine; decide, fun c hc => ?_⟩
  have S2 := S1.new hc (o := .lst [.int (ns.map V.int).length])
  have hgc : g ≠ c := ne_of_none upd_same hc
  refine ⟨_, rfl, _, rfl, a, _, rfl, S2.seq hS, fun p hp => ?_⟩
  have ecut : cutV (ns.map V.int) none (some 63) = ns.map V.int := by
    show ((ns.map V.int).drop 0).take ((HT.sIx (ns.map V.int).length (ns.map V.int).length (some ((63 : Nat) : Int))) - 0) = _
    rw [HT.sIx_nat, hl, List.drop_zero, Nat.sub_zero, Nat.min_eq_right h63]
    exact List.take_of_length_le (by rw [hl]; exact Nat.le_refl _)
  rw [ecut]
  have hg2 : H g = none := hg
  have hcn : H c = none := S1.free hc
  have hpn : H p = none := S2.free hp
  have hpg : g ≠ p := ne_of_none (show (upd (upd H g (.lst [])) c (.lst [.int (ns.map V.int).length])) g = some (.lst []) by rw [upd_ne hgc]; exact upd_same) hp
  have hpc : c ≠ p := ne_of_none upd_same hp
  refine ⟨p, rfl, ⟨_, SqL.of upd_same⟩, for_list (xs := ns.map V.int) (fun i σ H' => ∃ (ds cs : List Int) (x : Option V), σ = [some (.ref a), some (.ref g), some (.ref c), x] ∧ H' g = some (.lst (ds.map V.int)) ∧ H' c = some (.lst (cs.map V.int)) ∧ H' p = some (.lst (ns.map V.int)) ∧ ds.length ≤ 900 ∧ (∀ x ∈ ds, 0 ≤ x ∧ x < MM) ∧ cs.length = i + 1 ∧ (∀ x ∈ cs, 0 ≤ x ∧ x < MM) ∧ Same H H') ?_ ?_ ?_ ?_⟩
  · refine ⟨[], [(ns.length : Int)], _, rfl, ?_, ?_, upd_same, by decide, by simp, rfl, ?_, (S2.new hp)⟩
    · rw [upd_ne hpg, upd_ne hgc]; exact upd_same
    · rw [upd_ne hpc, hl]; exact upd_same
    · intro x hx
      simp only [List.mem_singleton] at hx
      subst hx
      exact ⟨by omega, by show (ns.length : Int) < 2147483629; omega⟩
  · rintro i σ H' _ ⟨ds, cs, x, _, _, _, h3, _⟩
    exact SqL.of h3
  · rintro i x σ H' hx ⟨ds, cs, x0, rfl, h1, h2, h3, hd9, hds, hcl, hcs, hSm⟩
    rw [List.getElem?_map] at hx
    obtain ⟨n, hn, rfl⟩ := Option.map_eq_some_iff.mp hx
    have hin : i < ns.length := (List.getElem?_eq_some_iff.mp hn).1
    refine ⟨_, rfl, n, rfl, ?_⟩
    have h0 : (0 : Int) ≤ (if n < 0 then -n else n) := by split <;> omega
    generalize (if n < 0 then -n else n) = m at h0
    refine ⟨_, rfl, .inl ⟨rfl, _, SqL.of h2⟩, _, rfl, _, _, rfl, rfl, by show (0 : Int) < 2147483629; decide, c, _, _, rfl, rfl, h2, small1000 (by rw [List.length_map, hcl]; omega), ?_⟩
    have S3 : Same H (upd H' c (.lst (cs.map V.int ++ [.int (m % 2147483629)]))) := hSm.mutN hcn
    refine while_by (fun σ H' => ∃ (ds : List Int) (k : Int), σ = [some (.ref a), some (.ref g), some (.ref c), some (.int k)] ∧ 0 ≤ k ∧ H' g = some (.lst (ds.map V.int)) ∧ H' c = some (.lst ((cs ++ [m % 2147483629]).map V.int)) ∧ H' p = some (.lst (ns.map V.int)) ∧ ds.length ≤ 900 ∧ (∀ x ∈ ds, 0 ≤ x ∧ x < MM) ∧ Same H H') (fun σ _ => match σ with | [_, _, _, some (.int k)] => k.toNat | _ => 0) ?_ ?_ ?_
    · refine ⟨ds, m, rfl, h0, ?_, ?_, ?_, hd9, hds, S3⟩
      · rw [upd_ne hgc]; exact h1
      · rw [upd_same, List.map_append]; rfl
      · rw [upd_ne (Ne.symm hpc)]; exact h3
    · rintro σ H1 ⟨es, k, rfl, hk0, e1, e2, e3, he9, hes, hS1⟩
      have fin : (∃ (ds cs : List Int) (x : Option V), ([some (.ref a), some (.ref g), some (.ref c), some (.int k)] : List (Option V)) = [some (.ref a), some (.ref g), some (.ref c), x] ∧ H1 g = some (.lst (ds.map V.int)) ∧ H1 c = some (.lst (cs.map V.int)) ∧ H1 p = some (.lst (ns.map V.int)) ∧ ds.length ≤ 900 ∧ (∀ x ∈ ds, 0 ≤ x ∧ x < MM) ∧ cs.length = (i + 1) + 1 ∧ (∀ x ∈ cs, 0 ≤ x ∧ x < MM) ∧ Same H H1) := by
        refine ⟨es, cs ++ [m % 2147483629], _, rfl, e1, e2, e3, he9, hes, by rw [List.length_append, hcl]; rfl, ?_, hS1⟩
        intro x hx
        rcases List.mem_append.mp hx with hx | hx
        · exact hcs x hx
        · simp only [List.mem_singleton] at hx
          subst hx
          exact mod_range (by decide)
      refine ⟨_, rfl, _, _, rfl, rfl, ⟨by decide, by decide, by decide⟩, _, _, rfl, rfl, _, rfl, ?_⟩
      refine ite2 (fun c1 => ?_) (fun c1 => ?_)
      · have c1' : ((10 : Int) ^ (18 : Int).toNat) ≤ k := of_decide_eq_true c1
        refine ⟨_, rfl, g, _, rfl, .inl (SqL.of e1), _, _, rfl, rfl, _, rfl, ?_⟩
        refine ite2 (fun c2 => ?_) (fun c2 => ?_)
        · have c2' : (((es.map V.int).length : Nat) : Int) < 900 := of_decide_eq_true c2
          rw [List.length_map] at c2'
          refine ⟨_, rfl, .inl ⟨rfl, _, SqL.of e1⟩, _, rfl, _, _, rfl, rfl, by show (0 : Int) < 2147483629; decide, g, _, _, rfl, rfl, e1, small1000 (by rw [List.length_map]; omega), ?_⟩
          refine ⟨_, rfl, _, _, rfl, rfl, wide_div (b := 32) (by decide) (by decide) (by decide) (by decide), ?_⟩
          refine ⟨⟨es ++ [k % 2147483629], k / 2147483629, rfl, ?_, ?_, ?_, ?_, ?_, ?_, hS1.mutN hg2⟩, ?_⟩
          · exact Int.ediv_nonneg hk0 (by decide)
          · rw [upd_same, List.map_append]; rfl
          · rw [upd_ne (Ne.symm hgc)]; exact e2
          · rw [upd_ne (Ne.symm hpg)]; exact e3
          · rw [List.length_append, List.length_singleton]; omega
          · intro x hx
            rcases List.mem_append.mp hx with hx | hx
            · exact hes x hx
            · simp only [List.mem_singleton] at hx
              subst hx
              exact mod_range (by decide)
          · show (k / 2147483629).toNat < k.toNat
            have e18 : ((10 : Int) ^ (18 : Int).toNat) = 1000000000000000000 := by decide
            rw [e18] at c1'
            omega
        · exact fin
      · exact fin
    · exact fun σ H Q Q' hm h => by
        obtain ⟨v, hv, i1, j1, a1, a2, a3, i2, j2, a4, a5, k1, a6, a7⟩ := h
        refine ⟨v, hv, i1, j1, a1, a2, a3, i2, j2, a4, a5, k1, a6, ?_⟩
        revert a7
        refine fun a7 => ?_
        cases k1 with
        | true =>
          obtain ⟨v, hv, p, ys, b1, b2, i3, j3, b3, b4, k2, b5, b6⟩ := (show _ from a7)
          exact ⟨v, hv, p, ys, b1, b2, i3, j3, b3, b4, k2, b5, hm _ _ b6⟩
        | false => exact hm _ _ a7
  · rintro σ H' ⟨ds, cs, x0, rfl, h1, h2, h3, hd9, hds, hcl, hcs, hSm⟩
    refine ⟨_, rfl, _, rfl, by show 3 ≤ sizeLine; decide, fun d hd => ?_⟩
    have hdg : d ≠ g := (ne_of_none h1 hd).symm
    have hdc : d ≠ c := (ne_of_none h2 hd).symm
    refine q d g c ds cs _ ⟨hdg, hdc, hgc, upd_same, by rw [upd_ne (Ne.symm hdg)]; exact h1, by rw [upd_ne (Ne.symm hdc)]; exact h2, hds, by omega, by rw [hcl, hl]; omega, hcs⟩ (hSm.new hd) (hSm.free hd) hg2 hcn
theorem dpAll_ints (K : PySem.W.Frag) (H : Hp) : ∀ ds : List Int, DpAll K H (ds.map V.int) (ds.map PyData.int)
  | [] => .nil
  | x :: r => .cons (.int x) (dpAll_ints K H r)
/-! ### the next number of the deck -/
abbrev s_next : Stmt := top 80
abbrev N_next : List Str := ["_law_deck_here", "_law_at", "_law_cell"]
abbrev P_next : List Str := ["_law_deck_here"]
theorem sc_next : FnScope N_next P_next (defScope s_next) := ⟨rfl, rfl, rfl, by decide +kernel, rfl, by decide +kernel, by decide +kernel⟩
def spNextO : Sp := fun vs H Q _ => ∃ (d g c : Addr) (ds cs : List Int) (k : Nat), vs = [.ref d] ∧ DkO H d g c ds cs k ∧ k < 2 ^ 40 ∧
  ∀ H', DkO H' d g c ds.tail cs (nK ds k) → Keep [d, g, c] H H' → Q (.int (nV ds cs k)) H'
theorem ok_next (T : Bt mg) (C_next : Cal K mg "_law_next" s_next P_next f fd) : FnOk P w K mg base CX0 1 f fd P_next spNextO := by
  refine C_next.F.ok sc_next (fun vs H Q E h => ?_) (fun cdv A outer s H vs Q E hr h => ?_)
  · obtain ⟨d, g, c, ds, cs, k, rfl, _⟩ := h
    rfl
  obtain ⟨d, g, c, ds, cs, k, rfl, D, hn, q⟩ := h
  refine ⟨_, PSs.nox (pss_cons (ps_if (pt_cmpR (op_neD hr.units) (pe_ix ix_list (pv 0) pe_int (fun _ _ => rfl)) (pe_lst pa_nil) (nomark _)) (pss_one (ps_ret (pe_bm PySem.F.plainAttrs_list PySem.F.slot_list_pop PySem.F.type_list_pop mt_popAt (pe_ix ix_list (pv 0) pe_int (fun _ _ => rfl)) (pa_cons pe_int pa_nil)))) pss_nil)
    (pss_cons (ps_set (i := 1) sc_next.nd rfl (Or.inl rfl) (pe_ix ix_list (pv 0) pe_int (fun _ _ => rfl)))
    (pss_cons (ps_asg (pe_op op_add (pv 1) pe_int) (pg_sub (pv 0) pe_int set_list))
    (pss_cons (ps_set (i := 2) sc_next.nd rfl (Or.inl rfl) (pe_op op_add (pe_ix ix_list (pe_ix ix_list (pv 0) pe_int (fun _ _ => rfl)) (pe_op op_mod (pe_op op_add (pv 1) pe_int) (pe_callB call_len_seq (by rfl) T.t_len (by decide +kernel) (pa_cons (pe_ix ix_list (pv 0) pe_int (fun _ _ => rfl)) pa_nil))) (fun _ _ => rfl)) (pe_op op_mul pe_int (pv 1))))
    (pss_one (ps_ret (pe_op op_mod (pe_op op_add (pe_op op_mod (pe_op op_pow (pe_op op_add (pv 2) (pe_op op_mul pe_int (pe_op op_add (pv 1) pe_int))) pe_int) pe_int) (pe_op op_mul pe_int (pv 2))) pe_int))))))), ?_⟩
  have h1 := D.hd
  have h2 := D.hg
  have h3 := D.hc
  have hds := D.ds
  have hc0 := D.l0
  have hc64 := D.l1
  have hcs := D.cs
  refine ⟨_, rfl, d, _, _, _, rfl, rfl, SqL.of h1, rfl, ?_⟩
  refine ⟨by show 0 ≤ sizeLine; decide, fun p hp => ?_⟩
  have hdp : d ≠ p := ne_of_none h1 hp
  have hgp : g ≠ p := ne_of_none h2 hp
  have hcp : c ≠ p := ne_of_none h3 hp
  have h1' : (upd H p (.lst [])) d = some (.lst [.ref g, .ref c, .int k]) := by rw [upd_ne hdp]; exact h1
  have h2' : (upd H p (.lst [])) g = some (.lst (ds.map V.int)) := by rw [upd_ne hgp]; exact h2
  have h3' : (upd H p (.lst [])) c = some (.lst (cs.map V.int)) := by rw [upd_ne hcp]; exact h3
  have k1 : Keep [d, g, c] H (upd H p (.lst [])) := (Keep.refl _ _).new hp
  refine ⟨.list (ds.map PyData.int), .list [], .lst (SqL.of h2') (dpAll_ints _ _ ds), .lst (SqL.of upd_same) .nil, PySem.W.shaped_ints ds, rfl, _, rfl, ?_⟩
  have ek : PyData.eqv (.list (ds.map PyData.int)) (.list []) = ds.isEmpty := by cases ds <;> rfl
  rw [ek]
  refine ite2 (fun c1 => ?_) (fun c1 => ?_)
  · cases ds with
    | nil => cases c1
    | cons x r =>
      refine ⟨_, rfl, d, _, _, _, rfl, rfl, SqL.of h1', rfl, .inl ⟨rfl, _, SqL.of h2'⟩, g, _, 0, 0, .int x, rfl, rfl, h2', by decide, by decide, ?_, rfl, ?_⟩
      · show (if (0 ≤ (0 : Int) && (0 : Int) < (((x :: r).map V.int).length : Nat)) then some (0 : Int).toNat else none) = some 0
        rw [if_pos]
        · rfl
        · simp
      · refine q _ ⟨D.ne1, D.ne2, D.ne3, ?_, ?_, ?_, fun y hy => hds y (List.mem_cons_of_mem _ hy), hc0, hc64, hcs⟩ (k1.mut (by simp))
        · rw [upd_ne D.ne1]; exact h1'
        · exact upd_same
        · rw [upd_ne (Ne.symm D.ne3)]; exact h3'
  · refine ⟨_, rfl, d, _, _, _, rfl, rfl, SqL.of h1', rfl, ?_⟩
    refine ⟨_, rfl, _, _, rfl, rfl, _, rfl, d, _, _, 2, rfl, rfl, h1', rfl, ?_⟩
    have h1'' : upd (upd H p (.lst [])) d (.lst ([V.ref g, .ref c, .int k].set 2 (.int ((k : Int) + 1)))) d = some (.lst [.ref g, .ref c, .int ((k : Int) + 1)]) := upd_same
    have h3'' : upd (upd H p (.lst [])) d (.lst ([V.ref g, .ref c, .int k].set 2 (.int ((k : Int) + 1)))) c = some (.lst (cs.map V.int)) := by rw [upd_ne (Ne.symm D.ne2)]; exact h3'
    have h2'' : upd (upd H p (.lst [])) d (.lst ([V.ref g, .ref c, .int k].set 2 (.int ((k : Int) + 1)))) g = some (.lst (ds.map V.int)) := by rw [upd_ne (Ne.symm D.ne1)]; exact h2'
    have k2 : Keep [d, g, c] H (upd (upd H p (.lst [])) d (.lst ([V.ref g, .ref c, .int k].set 2 (.int ((k : Int) + 1))))) := k1.mut (by simp)
    generalize upd (upd H p (.lst [])) d (.lst ([V.ref g, .ref c, .int k].set 2 (.int ((k : Int) + 1)))) = H2 at h1'' h2'' h3'' k2
    have hcl : (0 : Int) < (((cs.map V.int).length : Nat) : Int) := by rw [List.length_map]; omega
    obtain ⟨v, hv, hvm⟩ := at_int (ns := cs) (i := ((k : Int) + 1) % (((cs.map V.int).length : Nat) : Int)) (mod_range hcl).1 (by have := (mod_range (k := (k : Int) + 1) hcl).2; rw [List.length_map] at this; rw [List.length_map]; exact this)
    obtain ⟨hv0, hv1⟩ := hcs v hvm
    refine ⟨_, rfl, d, _, _, _, rfl, rfl, SqL.of h1'', rfl, ?_⟩
    refine ⟨_, rfl, _, _, rfl, rfl, ?_⟩
    refine ⟨_, rfl, d, _, _, _, rfl, rfl, SqL.of h1'', rfl, c, _, rfl, .inl (SqL.of h3''), _, _, rfl, rfl, hcl, c, _, _, _, rfl, rfl, SqL.of h3'', hv, ?_⟩
    refine ⟨_, rfl, _, _, rfl, rfl, .inl ⟨by decide, by decide⟩, _, _, rfl, rfl, ?_⟩
    refine ⟨_, rfl, _, rfl, _, _, rfl, rfl, _, _, rfl, rfl, .inl ⟨by decide, by decide⟩, _, _, rfl, rfl, _, _, rfl, rfl, ⟨by decide, by decide, ?_⟩, _, _, rfl, rfl, by show (0 : Int) < 2147483647; decide, ?_⟩
    · show (v + 7 * (k : Int) + 48271 * ((k : Int) + 1)).natAbs < 2 ^ 64
      have : (v : Int) < 2147483629 := hv1
      omega
    · refine ⟨_, rfl, _, _, rfl, rfl, .inl ⟨by decide, by decide⟩, _, _, rfl, rfl, _, _, rfl, rfl, by show (0 : Int) < 2147483629; decide, ?_⟩
      have e0 : ds = [] := by cases ds with | nil => rfl | cons _ _ => exact absurd rfl c1
      subst e0
      have ev : v = aG cs (((k : Int) + 1) % cs.length) := by
        have := (aG_at (cs := cs) (i := ((k : Int) + 1) % cs.length) (mod_range (by rw [List.length_map] at hcl; exact hcl)).1 (mod_range (by rw [List.length_map] at hcl; exact hcl)).2).1
        rw [List.length_map] at hv
        rw [hv] at this
        exact V.int.inj (Option.some.inj this)
      subst ev
      exact q _ ⟨D.ne1, D.ne2, D.ne3, h1'', h2'', h3'', hds, hc0, hc64, hcs⟩ k2
/-! as a world -/
def WdO (d g c : Addr) (ds cs : List Int) : Wd where
  dom := [d, g, c]
  st := fun n H => DkO H d g c (ds.drop n) cs (n - ds.length)
  only := fun n H H' D e => ⟨D.ne1, D.ne2, D.ne3, (e d (by simp)).trans D.hd, (e g (by simp)).trans D.hg, (e c (by simp)).trans D.hc, D.ds, D.l0, D.l1, D.cs⟩
  there := fun n H D a m => by
    simp only [List.mem_cons, List.not_mem_nil, or_false] at m
    rcases m with rfl | rfl | rfl
    · rw [D.hd]; exact fun z => nomatch z
    · rw [D.hg]; exact fun z => nomatch z
    · rw [D.hc]; exact fun z => nomatch z
def strO (ds cs : List Int) (n : Nat) : Int := nV (ds.drop n) cs (n - ds.length)
theorem strO_range {ds : List Int} (h : ∀ x ∈ ds, 0 ≤ x ∧ x < MM) (cs : List Int) (n : Nat) : 0 ≤ strO ds cs n ∧ strO ds cs n < MM := by
  unfold strO nV
  split
  · rename_i x r e
    exact h x (List.mem_of_mem_drop (i := n) (by rw [e]; simp))
  · exact mod_range (by decide)
def nxS (f : Nat → Int) : List D → M D
  | [.deck], n => if n < 2 ^ 40 then some (.int (f n), n + 1) else none
  | _, _ => none
theorem ok_nextM {d g c : Addr} {ds0 cs : List Int} (G : FnOk P w K mg base CX0 1 f fd P_next spNextO) : FnOk P w K mg base CX0 1 f fd P_next (spM ⟨K, d⟩ (WdO d g c ds0 cs) (nxS (strO ds0 cs))) :=
  G.imp fun vs H Q E ⟨R, ds, r, n, n', f, hp, e, q⟩ => by
    match ds, e with
    | [.deck], e =>
      obtain ⟨hn, e⟩ := ite_some e
      cases e
      obtain ⟨v, rfl, z⟩ := fzA1 f
      cases z
      refine ⟨d, g, c, ds0.drop n, cs, n - ds0.length, rfl, hp.wd, by omega, fun H' D' k => q _ R H' ⟨fun a o e => ?_, hp.dj, hp.d0, ?_, k, Same.refl _, fun a e => .inl e⟩ (.int _)⟩
      · refine k a o (hp.same _ _ e) fun m => ?_
        rw [hp.dj a m] at e; cases e
      · show DkO H' d g c (ds0.drop (n + 1)) cs (n + 1 - ds0.length)
        have e1 : ds0.drop (n + 1) = (ds0.drop n).tail := by rw [List.tail_drop]
        have e2 : n + 1 - ds0.length = nK (ds0.drop n) (n - ds0.length) := by
          unfold nK
          split
          · rename_i x r e
            have : n < ds0.length := by
              rcases Nat.lt_or_ge n ds0.length with h | h
              · exact h
              · rw [List.drop_eq_nil_of_le h] at e; cases e
            omega
          · rename_i e
            have := List.drop_eq_nil_iff.mp e
            omega
        rw [e1, e2]; exact D'
end
end Sh


set_option Elab.async false
set_option linter.all false
set_option maxRecDepth 100000
namespace Sh
open PySem L2 Nf
variable {P : Program} {w : World} {K : PySem.W.Frag} {mg : Str → Option Value} {base : Heap} {dk : Addr} {W : Wd}
abbrev s_same : Stmt := top 81
abbrev N_same : List Str := ["_law_found", "_law_due", "_law_one", "_law_other"]
abbrev P_same : List Str := ["_law_found", "_law_due"]
theorem sc_same : FnScope N_same P_same (defScope s_same) := ⟨rfl, rfl, rfl, by decide +kernel, rfl, by decide +kernel, by decide +kernel⟩
def b_same (c_same : List D → M D) : Bd :=
  (bSeq (sIf (trB (e1 (fIsi "tuple") (eVar 1))) (bSeq (sIf (tOr' (tNt (trB (e1 (fIsi "tuple") (eVar 0)))) (trB (e2 fNe (eF (f1 fLen) (aCons (eVar 0) aNil)) (eF (f1 fLen) (aCons (eVar 1) aNil))))) (sRet (eC (.bl false))) bNil)
  (sRet (eF (f1 fAll) (aCons (eLc (i2 fZip (eVar 0) (eVar 1)) (gT (gsC (gN 2) (gsC (gN 3) gsN))) tY (eCall c_same (aCons (eVar 2) (aCons (eVar 3) aNil))) [2, 3]) aNil)))) bNil)
  (bSeq (sIf (trB (e2 fIs (eVar 1) (eC .non))) (sRet (e2 fIs (eVar 0) (eC .non))) bNil)
  (bSeq (sIf (tOr' (trB (e1 (fIsi "bool") (eVar 1))) (trB (e1 (fIsi "bool") (eVar 0)))) (sRet (vAn (e1 (fIsi "bool") (eVar 1)) (vAn (e1 (fIsi "bool") (eVar 0)) (e2 fEq (eVar 0) (eVar 1))))) bNil)
  (bSeq (sIf (tOr' (trB (e1 (fIsi "str") (eVar 1))) (trB (e1 (fIsi "str") (eVar 0)))) (sRet (vAn (e1 (fIsi "str") (eVar 1)) (vAn (e1 (fIsi "str") (eVar 0)) (e2 fEq (eVar 0) (eVar 1))))) bNil)
  (sRet (vAn (e1 (fIsi "int") (eVar 0)) (e2 fEq (eVar 0) (eVar 1))))))))
theorem ok_same {k : Nat} {a_same : Addr} {d_same : FuncData} {c_same : List D → M D} (T : Bt mg) (C_same : Cal K mg "_law_same" s_same P_same a_same d_same) (G_same : FnOk P w K mg base CX0 k a_same d_same P_same (spM ⟨K, dk⟩ W c_same)) :
    FnOk P w K mg base CX0 (k + 1) a_same d_same P_same (spM ⟨K, dk⟩ W (fnA 2 4 (b_same c_same))) :=
  fn_ok [] C_same.F sc_same rfl fun cdv A outer s H E R hr =>
    (db_cons (ds_if (dt_tr (d_isi (d_var (pv 1)) (pe_bltn (v := .ty "tuple") (by rfl) T.t_tuple (by decide +kernel) rfl) (by rfl) T.t_isinstance)) (db_cons (ds_if (dw_pt (dw_or (dt_not (dt_tr (d_isi (d_var (pv 0)) (pe_bltn (v := .ty "tuple") (by rfl) T.t_tuple (by decide +kernel) rfl) (by rfl) T.t_isinstance))) (dw_or1 (dt_ne hr.units (d_callB call_len (c_len rfl) (by rfl) T.t_len (by decide +kernel) (da_cons (d_var (pv 0)) da_nil)) (d_callB call_len (c_len rfl) (by rfl) T.t_len (by decide +kernel) (da_cons (d_var (pv 1)) da_nil)))))) (db_one (ds_ret d_bl)) db_nil)
    (db_one (ds_ret (d_callB (cr_all rfl) c_all (by rfl) T.t_all (by decide +kernel) (da_cons (d_lc (own := [("_law_one", 2), ("_law_other", 3)]) sc_same.nd (di_zip (d_var (pv 0)) (d_var (pv 1)) (by rfl) T.t_zip) (blkOk_by (own := [("_law_one", 2), ("_law_other", 3)]) (N := N_same) (sc := defScope s_same) (by decide +kernel)) (fun _ _ _ _ _ => (dg_tup (dgs_cons (dg_name (pg_name (i := 2) sc_same.nd rfl (Or.inl rfl))) (dgs_cons (dg_name (pg_name (i := 3) sc_same.nd rfl (Or.inl rfl))) dgs_nil)))) (fun _ _ _ _ _ => dts_nil) (fun _ _ _ _ _ => (d_call G_same (hr.mono (by omega)) (by rfl) C_same.m C_same.F.kp C_same.b (da_cons (d_var (pv 2)) (da_cons (d_var (pv 3)) da_nil))))) da_nil))))) db_nil)
    (db_cons (ds_if (dt_is (d_var (pv 1)) d_non) (db_one (ds_ret (d_is (d_var (pv 0)) d_non))) db_nil)
    (db_cons (ds_if (dw_pt (dw_or (dt_tr (d_isi (d_var (pv 1)) (pe_bltn (v := .ty "bool") (by rfl) T.t_bool (by decide +kernel) rfl) (by rfl) T.t_isinstance)) (dw_or1 (dt_tr (d_isi (d_var (pv 0)) (pe_bltn (v := .ty "bool") (by rfl) T.t_bool (by decide +kernel) rfl) (by rfl) T.t_isinstance))))) (db_one (ds_ret (d_and (d_isi (d_var (pv 1)) (pe_bltn (v := .ty "bool") (by rfl) T.t_bool (by decide +kernel) rfl) (by rfl) T.t_isinstance) (d_and (d_isi (d_var (pv 0)) (pe_bltn (v := .ty "bool") (by rfl) T.t_bool (by decide +kernel) rfl) (by rfl) T.t_isinstance) (d_one (d_eq hr.units (d_var (pv 0)) (d_var (pv 1)))))))) db_nil)
    (db_cons (ds_if (dw_pt (dw_or (dt_tr (d_isi (d_var (pv 1)) (pe_bltn (v := .ty "str") (by rfl) T.t_str (by decide +kernel) rfl) (by rfl) T.t_isinstance)) (dw_or1 (dt_tr (d_isi (d_var (pv 0)) (pe_bltn (v := .ty "str") (by rfl) T.t_str (by decide +kernel) rfl) (by rfl) T.t_isinstance))))) (db_one (ds_ret (d_and (d_isi (d_var (pv 1)) (pe_bltn (v := .ty "str") (by rfl) T.t_str (by decide +kernel) rfl) (by rfl) T.t_isinstance) (d_and (d_isi (d_var (pv 0)) (pe_bltn (v := .ty "str") (by rfl) T.t_str (by decide +kernel) rfl) (by rfl) T.t_isinstance) (d_one (d_eq hr.units (d_var (pv 0)) (d_var (pv 1)))))))) db_nil)
    (db_one (ds_ret (d_and (d_isi (d_var (pv 0)) (pe_bltn (v := .ty "int") (by rfl) T.t_int (by decide +kernel) rfl) (by rfl) T.t_isinstance) (d_one (d_eq hr.units (d_var (pv 0)) (d_var (pv 1)))))))))))
abbrev s_l_is_word : Stmt := top 82
abbrev N_l_is_word : List Str := ["_law_thing", "_law_sign"]
abbrev P_l_is_word : List Str := ["_law_thing"]
theorem sc_l_is_word : FnScope N_l_is_word P_l_is_word (defScope s_l_is_word) := ⟨rfl, rfl, rfl, by decide +kernel, rfl, by decide +kernel, by decide +kernel⟩
def b_l_is_word : Bd :=
  (bSeq (sIf (tOr' (tNt (trB (e1 (fIsi "str") (eVar 0)))) (tNt (trB (vCh fLe fLe (eC (.int 1)) (eF (f1 fLen) (aCons (eVar 0) aNil)) (eC (.int 8)))))) (sRet (eC (.bl false))) bNil)
  (bSeq (sIf (trB (e2 fInD (eVar 0) (eLst (aCons (eC (.str ("kind" : Str))) (aCons (eC (.str ("def" : Str))) (aCons (eC (.str ("either" : Str))) (aCons (eC (.str ("same" : Str))) (aCons (eC (.str ("truth" : Str))) aNil)))))))) (sRet (eC (.bl false))) bNil)
  (sRet (e2 fEq (eLc (iSeq (eVar 0)) (gN 1) (trB (e2 fNotInD (eVar 1) (eC (.str ("abcdefghijklmnopqrstuvwxyz" : Str))))) (eVar 1) [1]) (eLst aNil)))))
theorem ok_l_is_word {k : Nat} {a_l_is_word : Addr} {d_l_is_word : FuncData} (T : Bt mg) (C_l_is_word : Cal K mg "_law_is_word" s_l_is_word P_l_is_word a_l_is_word d_l_is_word) :
    FnOk P w K mg base CX0 (k + 1) a_l_is_word d_l_is_word P_l_is_word (spM ⟨K, dk⟩ W (fnA 1 2 (b_l_is_word))) :=
  fn_ok [] C_l_is_word.F sc_l_is_word rfl fun cdv A outer s H E R hr =>
    (db_cons (ds_if (dw_pt (dw_or (dt_not (dt_tr (d_isi (d_var (pv 0)) (pe_bltn (v := .ty "str") (by rfl) T.t_str (by decide +kernel) rfl) (by rfl) T.t_isinstance))) (dw_or1 (dt_not (dt_chain op_le o2Le bf_I op_le o2Le bf_I d_int (d_callB call_len (c_len rfl) (by rfl) T.t_len (by decide +kernel) (da_cons (d_var (pv 0)) da_nil)) d_int))))) (db_one (ds_ret d_bl)) db_nil)
    (db_cons (ds_if (dt_inD hr.units (d_var (pv 0)) (d_lst (da_cons d_str (da_cons d_str (da_cons d_str (da_cons d_str (da_cons d_str da_nil))))) (aCons_len (aCons_len (aCons_len (aCons_len (aCons_len aNil_len))))))) (db_one (ds_ret d_bl)) db_nil)
    (db_one (ds_ret (d_eq hr.units (d_lc (own := [("_law_sign", 1)]) sc_l_is_word.nd (di_seq (d_var (pv 0))) (blkOk_by (own := [("_law_sign", 1)]) (N := N_l_is_word) (sc := defScope s_l_is_word) (by decide +kernel)) (fun _ _ _ _ _ => (dg_name (pg_name (i := 1) sc_l_is_word.nd rfl (Or.inl rfl)))) (fun _ _ _ _ _ => (dts_one (dt_notinD hr.units (d_var (pv 1)) d_str))) (fun _ _ _ _ _ => (d_var (pv 1)))) (d_lst da_nil aNil_len))))))
abbrev s_is_new : Stmt := top 83
abbrev N_is_new : List Str := ["_law_thing", "_law_sign"]
abbrev P_is_new : List Str := ["_law_thing"]
theorem sc_is_new : FnScope N_is_new P_is_new (defScope s_is_new) := ⟨rfl, rfl, rfl, by decide +kernel, rfl, by decide +kernel, by decide +kernel⟩
def b_is_new : Bd :=
  (bSeq (sIf (tOr' (tNt (trB (e1 (fIsi "str") (eVar 0)))) (tOr' (tNt (trB (vCh fLe fLe (eC (.int 1)) (eF (f1 fLen) (aCons (eVar 0) aNil)) (eC (.int 3))))) (trB (e2 fEq (e2 fDG (eVar 0) (eC (.int 0))) (eC (.str ("0" : Str))))))) (sRet (eC (.bl false))) bNil)
  (sRet (e2 fEq (eLc (iSeq (eVar 0)) (gN 1) (trB (e2 fNotInD (eVar 1) (eC (.str ("0123456789" : Str))))) (eVar 1) [1]) (eLst aNil))))
theorem ok_is_new {k : Nat} {a_is_new : Addr} {d_is_new : FuncData} (T : Bt mg) (C_is_new : Cal K mg "_law_is_new" s_is_new P_is_new a_is_new d_is_new) :
    FnOk P w K mg base CX0 (k + 1) a_is_new d_is_new P_is_new (spM ⟨K, dk⟩ W (fnA 1 2 (b_is_new))) :=
  fn_ok [] C_is_new.F sc_is_new rfl fun cdv A outer s H E R hr =>
    (db_cons (ds_if (dw_pt (dw_or (dt_not (dt_tr (d_isi (d_var (pv 0)) (pe_bltn (v := .ty "str") (by rfl) T.t_str (by decide +kernel) rfl) (by rfl) T.t_isinstance))) (dw_or (dt_not (dt_chain op_le o2Le bf_I op_le o2Le bf_I d_int (d_callB call_len (c_len rfl) (by rfl) T.t_len (by decide +kernel) (da_cons (d_var (pv 0)) da_nil)) d_int)) (dw_or1 (dt_eq hr.units (d_ixD hr.units (d_var (pv 0)) d_int) d_str))))) (db_one (ds_ret d_bl)) db_nil)
    (db_one (ds_ret (d_eq hr.units (d_lc (own := [("_law_sign", 1)]) sc_is_new.nd (di_seq (d_var (pv 0))) (blkOk_by (own := [("_law_sign", 1)]) (N := N_is_new) (sc := defScope s_is_new) (by decide +kernel)) (fun _ _ _ _ _ => (dg_name (pg_name (i := 1) sc_is_new.nd rfl (Or.inl rfl)))) (fun _ _ _ _ _ => (dts_one (dt_notinD hr.units (d_var (pv 1)) d_str))) (fun _ _ _ _ _ => (d_var (pv 1)))) (d_lst da_nil aNil_len)))))
abbrev s_is : Stmt := top 84
abbrev N_is : List Str := ["_law_thing", "_law_heads", "_law_part"]
abbrev P_is : List Str := ["_law_thing", "_law_heads"]
theorem sc_is : FnScope N_is P_is (defScope s_is) := ⟨rfl, rfl, rfl, by decide +kernel, rfl, by decide +kernel, by decide +kernel⟩
def b_is (c_is : List D → M D) (c_l_is_word : List D → M D) (c_is_new : List D → M D) : Bd :=
  (bSeq (sIf (tOr' (tNt (trB (e1 (fIsi "tuple") (eVar 0)))) (tOr' (trB (e2 fEq (eVar 0) (eTup aNil))) (tOr' (tNt (trB (e1 (fIsi "str") (e2 fDG (eVar 0) (eC (.int 0)))))) (trB (e2 fNotInD (e2 fDG (eVar 0) (eC (.int 0))) (eVar 1)))))) (sRet (eC (.bl false))) bNil)
  (bSeq (sIf (trB (e2 fEq (e2 fDG (eVar 0) (eC (.int 0))) (eC (.str ("skip" : Str))))) (sRet (e2 fEq (eF (f1 fLen) (aCons (eVar 0) aNil)) (eC (.int 1)))) bNil)
  (bSeq (sIf (trB (e2 fEq (e2 fDG (eVar 0) (eC (.int 0))) (eC (.str ("name" : Str))))) (sRet (vAn (e2 fEq (eF (f1 fLen) (aCons (eVar 0) aNil)) (eC (.int 2))) (vOr (eCall c_l_is_word (aCons (e2 fDG (eVar 0) (eC (.int 1))) aNil)) (eCall c_is_new (aCons (e2 fDG (eVar 0) (eC (.int 1))) aNil))))) bNil)
  (bSeq (sIf (trB (e2 fNe (eF (f1 fLen) (aCons (eVar 0) aNil)) (eC (.int 3)))) (sRet (eC (.bl false))) bNil)
  (bSeq (sIf (trB (e2 fInD (e2 fDG (eVar 0) (eC (.int 0))) (eLst (aCons (eC (.str ("either" : Str))) (aCons (eC (.str ("same" : Str))) aNil))))) (sRet (vAn (eCall c_is (aCons (e2 fDG (eVar 0) (eC (.int 1))) (aCons (eVar 1) aNil))) (eCall c_is (aCons (e2 fDG (eVar 0) (eC (.int 2))) (aCons (eVar 1) aNil))))) bNil)
  (bSeq (sIf (tOr' (tNt (trB (eCall c_l_is_word (aCons (e2 fDG (eVar 0) (eC (.int 1))) aNil)))) (tOr' (tNt (trB (e1 (fIsi "tuple") (e2 fDG (eVar 0) (eC (.int 2)))))) (trB (e2 fGt (eF (f1 fLen) (aCons (e2 fDG (eVar 0) (eC (.int 2))) aNil)) (eC (.int 3)))))) (sRet (eC (.bl false))) bNil)
  (sRet (eF (f1 fAll) (aCons (eLc (iSeq (e2 fDG (eVar 0) (eC (.int 2)))) (gN 2) tY (eCall c_is (aCons (eVar 2) (aCons (eVar 1) aNil))) [2]) aNil)))))))))
theorem ok_is {k : Nat} {a_is : Addr} {d_is : FuncData} {a_l_is_word : Addr} {d_l_is_word : FuncData} {c_l_is_word : List D → M D} {a_is_new : Addr} {d_is_new : FuncData} {c_is_new : List D → M D} {c_is : List D → M D} (T : Bt mg) (C_is : Cal K mg "_law_is" s_is P_is a_is d_is) (G_is : FnOk P w K mg base CX0 k a_is d_is P_is (spM ⟨K, dk⟩ W c_is)) (C_l_is_word : Cal K mg "_law_is_word" s_l_is_word P_l_is_word a_l_is_word d_l_is_word) (G_l_is_word : FnOk P w K mg base CX0 k a_l_is_word d_l_is_word P_l_is_word (spM ⟨K, dk⟩ W c_l_is_word)) (C_is_new : Cal K mg "_law_is_new" s_is_new P_is_new a_is_new d_is_new) (G_is_new : FnOk P w K mg base CX0 k a_is_new d_is_new P_is_new (spM ⟨K, dk⟩ W c_is_new)) :
    FnOk P w K mg base CX0 (k + 1) a_is d_is P_is (spM ⟨K, dk⟩ W (fnA 2 3 (b_is c_is c_l_is_word c_is_new))) :=
  fn_ok [] C_is.F sc_is rfl fun cdv A outer s H E R hr =>
    (db_cons (ds_if (dw_pt (dw_or (dt_not (dt_tr (d_isi (d_var (pv 0)) (pe_bltn (v := .ty "tuple") (by rfl) T.t_tuple (by decide +kernel) rfl) (by rfl) T.t_isinstance))) (dw_or (dt_eq hr.units (d_var (pv 0)) (d_tup da_nil aNil_len)) (dw_or (dt_not (dt_tr (d_isi (d_ixD hr.units (d_var (pv 0)) d_int) (pe_bltn (v := .ty "str") (by rfl) T.t_str (by decide +kernel) rfl) (by rfl) T.t_isinstance))) (dw_or1 (dt_notinD hr.units (d_ixD hr.units (d_var (pv 0)) d_int) (d_var (pv 1)))))))) (db_one (ds_ret d_bl)) db_nil)
    (db_cons (ds_if (dt_eq hr.units (d_ixD hr.units (d_var (pv 0)) d_int) d_str) (db_one (ds_ret (d_eq hr.units (d_callB call_len (c_len rfl) (by rfl) T.t_len (by decide +kernel) (da_cons (d_var (pv 0)) da_nil)) d_int))) db_nil)
    (db_cons (ds_if (dt_eq hr.units (d_ixD hr.units (d_var (pv 0)) d_int) d_str) (db_one (ds_ret (d_and (d_eq hr.units (d_callB call_len (c_len rfl) (by rfl) T.t_len (by decide +kernel) (da_cons (d_var (pv 0)) da_nil)) d_int) (d_one (d_or (d_call G_l_is_word (hr.mono (by omega)) (by rfl) C_l_is_word.m C_l_is_word.F.kp C_l_is_word.b (da_cons (d_ixD hr.units (d_var (pv 0)) d_int) da_nil)) (d_one (d_call G_is_new (hr.mono (by omega)) (by rfl) C_is_new.m C_is_new.F.kp C_is_new.b (da_cons (d_ixD hr.units (d_var (pv 0)) d_int) da_nil)))))))) db_nil)
    (db_cons (ds_if (dt_ne hr.units (d_callB call_len (c_len rfl) (by rfl) T.t_len (by decide +kernel) (da_cons (d_var (pv 0)) da_nil)) d_int) (db_one (ds_ret d_bl)) db_nil)
    (db_cons (ds_if (dt_inD hr.units (d_ixD hr.units (d_var (pv 0)) d_int) (d_lst (da_cons d_str (da_cons d_str da_nil)) (aCons_len (aCons_len aNil_len)))) (db_one (ds_ret (d_and (d_call G_is (hr.mono (by omega)) (by rfl) C_is.m C_is.F.kp C_is.b (da_cons (d_ixD hr.units (d_var (pv 0)) d_int) (da_cons (d_var (pv 1)) da_nil))) (d_one (d_call G_is (hr.mono (by omega)) (by rfl) C_is.m C_is.F.kp C_is.b (da_cons (d_ixD hr.units (d_var (pv 0)) d_int) (da_cons (d_var (pv 1)) da_nil))))))) db_nil)
    (db_cons (ds_if (dw_pt (dw_or (dt_not (dt_tr (d_call G_l_is_word (hr.mono (by omega)) (by rfl) C_l_is_word.m C_l_is_word.F.kp C_l_is_word.b (da_cons (d_ixD hr.units (d_var (pv 0)) d_int) da_nil)))) (dw_or (dt_not (dt_tr (d_isi (d_ixD hr.units (d_var (pv 0)) d_int) (pe_bltn (v := .ty "tuple") (by rfl) T.t_tuple (by decide +kernel) rfl) (by rfl) T.t_isinstance))) (dw_or1 (dt_gt (d_callB call_len (c_len rfl) (by rfl) T.t_len (by decide +kernel) (da_cons (d_ixD hr.units (d_var (pv 0)) d_int) da_nil)) d_int))))) (db_one (ds_ret d_bl)) db_nil)
    (db_one (ds_ret (d_callB (cr_all rfl) c_all (by rfl) T.t_all (by decide +kernel) (da_cons (d_lc (own := [("_law_part", 2)]) sc_is.nd (di_seq (d_ixD hr.units (d_var (pv 0)) d_int)) (blkOk_by (own := [("_law_part", 2)]) (N := N_is) (sc := defScope s_is) (by decide +kernel)) (fun _ _ _ _ _ => (dg_name (pg_name (i := 2) sc_is.nd rfl (Or.inl rfl)))) (fun _ _ _ _ _ => dts_nil) (fun _ _ _ _ _ => (d_call G_is (hr.mono (by omega)) (by rfl) C_is.m C_is.F.kp C_is.b (da_cons (d_var (pv 2)) (da_cons (d_var (pv 1)) da_nil))))) da_nil))))))))))
abbrev s_size : Stmt := top 85
abbrev N_size : List Str := ["_law_saying", "_law_parts", "_law_some", "_law_part", "_law_one"]
abbrev P_size : List Str := ["_law_saying"]
theorem sc_size : FnScope N_size P_size (defScope s_size) := ⟨rfl, rfl, rfl, by decide +kernel, rfl, by decide +kernel, by decide +kernel⟩
def b_size (c_size : List D → M D) : Bd :=
  (bSeq (sSet 1 (eSl (eVar 0) (pSome (eC (.int 1))) (fun _ => Mp none)))
  (bSeq (sIf (trB (e2 fInD (e2 fDG (eVar 0) (eC (.int 0))) (eLst (aCons (eC (.str ("made" : Str))) (aCons (eC (.str ("call" : Str))) aNil))))) (sSet 1 (e2 fDG (eVar 0) (eC (.int 2)))) bNil)
  (bSeq (sIf (trB (e2 fInD (e2 fDG (eVar 0) (eC (.int 0))) (eLst (aCons (eC (.str ("name" : Str))) (aCons (eC (.str ("skip" : Str))) aNil))))) (sSet 1 (eTup aNil)) bNil)
  (bSeq (sSet 2 (eLc (iSeq (eVar 1)) (gN 3) tY (eCall c_size (aCons (eVar 3) aNil)) [3]))
  (sRet (eTup (aCons (e2 fAdd (eC (.int 1)) (eF (f1 fSum) (aCons (eLc (iSeq (eVar 2)) (gN 4) tY (e2 fDG (eVar 4) (eC (.int 0))) [4]) aNil))) (aCons (e2 fAdd (eC (.int 1)) (eF (f1 fMaxL) (aCons (e2 fAdd (eLst (aCons (eC (.int 0)) aNil)) (eLc (iSeq (eVar 2)) (gN 4) tY (e2 fDG (eVar 4) (eC (.int 1))) [4])) aNil))) aNil))))))))
theorem ok_size {k : Nat} {a_size : Addr} {d_size : FuncData} {c_size : List D → M D} (T : Bt mg) (C_size : Cal K mg "_law_size" s_size P_size a_size d_size) (G_size : FnOk P w K mg base CX0 k a_size d_size P_size (spM ⟨K, dk⟩ W c_size)) :
    FnOk P w K mg base CX0 (k + 1) a_size d_size P_size (spM ⟨K, dk⟩ W (fnA 1 5 (b_size c_size))) :=
  fn_ok [] C_size.F sc_size rfl fun cdv A outer s H E R hr =>
    (db_cons (ds_set (i := 1) sc_size.nd rfl (Or.inl rfl) (d_sl (d_var (pv 0)) (dp_some d_int) dp_none))
    (db_cons (ds_if (dt_inD hr.units (d_ixD hr.units (d_var (pv 0)) d_int) (d_lst (da_cons d_str (da_cons d_str da_nil)) (aCons_len (aCons_len aNil_len)))) (db_one (ds_set (i := 1) sc_size.nd rfl (Or.inl rfl) (d_ixD hr.units (d_var (pv 0)) d_int))) db_nil)
    (db_cons (ds_if (dt_inD hr.units (d_ixD hr.units (d_var (pv 0)) d_int) (d_lst (da_cons d_str (da_cons d_str da_nil)) (aCons_len (aCons_len aNil_len)))) (db_one (ds_set (i := 1) sc_size.nd rfl (Or.inl rfl) (d_tup da_nil aNil_len))) db_nil)
    (db_cons (ds_setLc (i := 2) (own := [("_law_part", 3)]) sc_size.nd rfl rfl (sw_true rfl rfl rfl (by decide +kernel)) (di_seq (d_var (pv 1))) (blkOk_by (own := [("_law_part", 3)]) (N := N_size) (sc := defScope s_size) (by decide +kernel)) (fun _ _ _ _ _ => (dg_name (pg_name (i := 3) sc_size.nd rfl (Or.inl rfl)))) (fun _ _ _ _ _ => dts_nil) (fun _ _ _ _ _ => (d_call G_size (hr.mono (by omega)) (by rfl) C_size.m C_size.F.kp C_size.b (da_cons (d_var (pv 3)) da_nil))))
    (db_one (ds_ret (d_tup (da_cons (d_add d_int (d_callB (cr_sum rfl) c_sum (by rfl) T.t_sum (by decide +kernel) (da_cons (d_lc (own := [("_law_one", 4)]) sc_size.nd (di_seq (d_var (pv 2))) (blkOk_by (own := [("_law_one", 4)]) (N := N_size) (sc := defScope s_size) (by decide +kernel)) (fun _ _ _ _ _ => (dg_name (pg_name (i := 4) sc_size.nd rfl (Or.inl rfl)))) (fun _ _ _ _ _ => dts_nil) (fun _ _ _ _ _ => (d_ixD hr.units (d_var (pv 4)) d_int))) da_nil))) (da_cons (d_add d_int (d_callB (cr_max rfl) c_maxL (by rfl) T.t_max (by decide +kernel) (da_cons (d_add (d_lst (da_cons d_int da_nil) (aCons_len aNil_len)) (d_lc (own := [("_law_one", 4)]) sc_size.nd (di_seq (d_var (pv 2))) (blkOk_by (own := [("_law_one", 4)]) (N := N_size) (sc := defScope s_size) (by decide +kernel)) (fun _ _ _ _ _ => (dg_name (pg_name (i := 4) sc_size.nd rfl (Or.inl rfl)))) (fun _ _ _ _ _ => dts_nil) (fun _ _ _ _ _ => (d_ixD hr.units (d_var (pv 4)) d_int)))) da_nil))) da_nil)) (aCons_len (aCons_len aNil_len)))))))))
abbrev s_has_new : Stmt := top 87
abbrev N_has_new : List Str := ["_law_saying", "_law_parts", "_law_part"]
abbrev P_has_new : List Str := ["_law_saying"]
theorem sc_has_new : FnScope N_has_new P_has_new (defScope s_has_new) := ⟨rfl, rfl, rfl, by decide +kernel, rfl, by decide +kernel, by decide +kernel⟩
def b_has_new (c_has_new : List D → M D) (c_is_new : List D → M D) : Bd :=
  (bSeq (sIf (trB (e2 fEq (e2 fDG (eVar 0) (eC (.int 0))) (eC (.str ("name" : Str))))) (sRet (eCall c_is_new (aCons (e2 fDG (eVar 0) (eC (.int 1))) aNil))) bNil)
  (bSeq (sSet 1 (eSl (eVar 0) (pSome (eC (.int 1))) (fun _ => Mp none)))
  (bSeq (sIf (trB (e2 fInD (e2 fDG (eVar 0) (eC (.int 0))) (eLst (aCons (eC (.str ("made" : Str))) (aCons (eC (.str ("call" : Str))) aNil))))) (sSet 1 (e2 fDG (eVar 0) (eC (.int 2)))) bNil)
  (sRet (e2 fGt (eF (f1 fLen) (aCons (eLc (iSeq (eVar 1)) (gN 2) (trB (eCall c_has_new (aCons (eVar 2) aNil))) (eVar 2) [2]) aNil)) (eC (.int 0)))))))
theorem ok_has_new {k : Nat} {a_has_new : Addr} {d_has_new : FuncData} {a_is_new : Addr} {d_is_new : FuncData} {c_is_new : List D → M D} {c_has_new : List D → M D} (T : Bt mg) (C_has_new : Cal K mg "_law_has_new" s_has_new P_has_new a_has_new d_has_new) (G_has_new : FnOk P w K mg base CX0 k a_has_new d_has_new P_has_new (spM ⟨K, dk⟩ W c_has_new)) (C_is_new : Cal K mg "_law_is_new" s_is_new P_is_new a_is_new d_is_new) (G_is_new : FnOk P w K mg base CX0 k a_is_new d_is_new P_is_new (spM ⟨K, dk⟩ W c_is_new)) :
    FnOk P w K mg base CX0 (k + 1) a_has_new d_has_new P_has_new (spM ⟨K, dk⟩ W (fnA 1 3 (b_has_new c_has_new c_is_new))) :=
  fn_ok [] C_has_new.F sc_has_new rfl fun cdv A outer s H E R hr =>
    (db_cons (ds_if (dt_eq hr.units (d_ixD hr.units (d_var (pv 0)) d_int) d_str) (db_one (ds_ret (d_call G_is_new (hr.mono (by omega)) (by rfl) C_is_new.m C_is_new.F.kp C_is_new.b (da_cons (d_ixD hr.units (d_var (pv 0)) d_int) da_nil)))) db_nil)
    (db_cons (ds_set (i := 1) sc_has_new.nd rfl (Or.inl rfl) (d_sl (d_var (pv 0)) (dp_some d_int) dp_none))
    (db_cons (ds_if (dt_inD hr.units (d_ixD hr.units (d_var (pv 0)) d_int) (d_lst (da_cons d_str (da_cons d_str da_nil)) (aCons_len (aCons_len aNil_len)))) (db_one (ds_set (i := 1) sc_has_new.nd rfl (Or.inl rfl) (d_ixD hr.units (d_var (pv 0)) d_int))) db_nil)
    (db_one (ds_ret (d_gt (d_callB call_len (c_len rfl) (by rfl) T.t_len (by decide +kernel) (da_cons (d_lc (own := [("_law_part", 2)]) sc_has_new.nd (di_seq (d_var (pv 1))) (blkOk_by (own := [("_law_part", 2)]) (N := N_has_new) (sc := defScope s_has_new) (by decide +kernel)) (fun _ _ _ _ _ => (dg_name (pg_name (i := 2) sc_has_new.nd rfl (Or.inl rfl)))) (fun _ _ _ _ _ => (dts_one (dt_tr (d_call G_has_new (hr.mono (by omega)) (by rfl) C_has_new.m C_has_new.F.kp C_has_new.b (da_cons (d_var (pv 2)) da_nil))))) (fun _ _ _ _ _ => (d_var (pv 2)))) da_nil)) d_int))))))
abbrev s_is_there : Stmt := top 86
abbrev N_is_there : List Str := ["_law_thing", "_law_deepest", "_law_new", "_law_heads"]
abbrev P_is_there : List Str := ["_law_thing", "_law_deepest", "_law_new"]
theorem sc_is_there : FnScope N_is_there P_is_there (defScope s_is_there) := ⟨rfl, rfl, rfl, by decide +kernel, rfl, by decide +kernel, by decide +kernel⟩
def b_is_there (c_has_new : List D → M D) (c_size : List D → M D) (c_is : List D → M D) : Bd :=
  (bSeq (sSet 3 (eLst (aCons (eC (.str ("name" : Str))) (aCons (eC (.str ("made" : Str))) (aCons (eC (.str ("call" : Str))) (aCons (eC (.str ("either" : Str))) (aCons (eC (.str ("same" : Str))) aNil)))))))
  (bSeq (sIf (tOr' (tNt (trB (eCall c_is (aCons (eVar 0) (aCons (eVar 3) aNil))))) (tOr' (trB (e2 fGt (e2 fDG (eCall c_size (aCons (eVar 0) aNil)) (eC (.int 0))) (eC (.int 40)))) (trB (e2 fGt (e2 fDG (eCall c_size (aCons (eVar 0) aNil)) (eC (.int 1))) (eVar 1))))) (sRet (eC (.bl false))) bNil)
  (sRet (vOr (eVar 2) (e1 fNot (eCall c_has_new (aCons (eVar 0) aNil)))))))
theorem ok_is_there {k : Nat} {a_is_there : Addr} {d_is_there : FuncData} {a_has_new : Addr} {d_has_new : FuncData} {c_has_new : List D → M D} {a_size : Addr} {d_size : FuncData} {c_size : List D → M D} {a_is : Addr} {d_is : FuncData} {c_is : List D → M D} (T : Bt mg) (C_is_there : Cal K mg "_law_is_there" s_is_there P_is_there a_is_there d_is_there) (C_has_new : Cal K mg "_law_has_new" s_has_new P_has_new a_has_new d_has_new) (G_has_new : FnOk P w K mg base CX0 k a_has_new d_has_new P_has_new (spM ⟨K, dk⟩ W c_has_new)) (C_size : Cal K mg "_law_size" s_size P_size a_size d_size) (G_size : FnOk P w K mg base CX0 k a_size d_size P_size (spM ⟨K, dk⟩ W c_size)) (C_is : Cal K mg "_law_is" s_is P_is a_is d_is) (G_is : FnOk P w K mg base CX0 k a_is d_is P_is (spM ⟨K, dk⟩ W c_is)) :
    FnOk P w K mg base CX0 (k + 1) a_is_there d_is_there P_is_there (spM ⟨K, dk⟩ W (fnA 3 4 (b_is_there c_has_new c_size c_is))) :=
  fn_ok [] C_is_there.F sc_is_there rfl fun cdv A outer s H E R hr =>
    (db_cons (ds_set (i := 3) sc_is_there.nd rfl (Or.inl rfl) (d_lst (da_cons d_str (da_cons d_str (da_cons d_str (da_cons d_str (da_cons d_str da_nil))))) (aCons_len (aCons_len (aCons_len (aCons_len (aCons_len aNil_len)))))))
    (db_cons (ds_if (dw_pt (dw_or (dt_not (dt_tr (d_call G_is (hr.mono (by omega)) (by rfl) C_is.m C_is.F.kp C_is.b (da_cons (d_var (pv 0)) (da_cons (d_var (pv 3)) da_nil))))) (dw_or (dt_gt (d_ixD hr.units (d_call G_size (hr.mono (by omega)) (by rfl) C_size.m C_size.F.kp C_size.b (da_cons (d_var (pv 0)) da_nil)) d_int) d_int) (dw_or1 (dt_gt (d_ixD hr.units (d_call G_size (hr.mono (by omega)) (by rfl) C_size.m C_size.F.kp C_size.b (da_cons (d_var (pv 0)) da_nil)) d_int) (d_var (pv 1))))))) (db_one (ds_ret d_bl)) db_nil)
    (db_one (ds_ret (d_or (d_var (pv 2)) (d_one (d_not (d_call G_has_new (hr.mono (by omega)) (by rfl) C_has_new.m C_has_new.F.kp C_has_new.b (da_cons (d_var (pv 0)) da_nil)))))))))
abbrev s_l_is_row : Stmt := top 88
abbrev N_l_is_row : List Str := ["_law_thing", "_law_least", "_law_most"]
abbrev P_l_is_row : List Str := ["_law_thing", "_law_least", "_law_most"]
theorem sc_l_is_row : FnScope N_l_is_row P_l_is_row (defScope s_l_is_row) := ⟨rfl, rfl, rfl, by decide +kernel, rfl, by decide +kernel, by decide +kernel⟩
def b_l_is_row : Bd :=
  (sRet (vAn (e1 (fIsi "tuple") (eVar 0)) (vCh fLe fLe (eVar 1) (eF (f1 fLen) (aCons (eVar 0) aNil)) (eVar 2))))
theorem ok_l_is_row {k : Nat} {a_l_is_row : Addr} {d_l_is_row : FuncData} (T : Bt mg) (C_l_is_row : Cal K mg "_law_is_row" s_l_is_row P_l_is_row a_l_is_row d_l_is_row) :
    FnOk P w K mg base CX0 (k + 1) a_l_is_row d_l_is_row P_l_is_row (spM ⟨K, dk⟩ W (fnA 3 3 (b_l_is_row))) :=
  fn_ok [] C_l_is_row.F sc_l_is_row rfl fun cdv A outer s H E R hr =>
    (db_one (ds_ret (d_and (d_isi (d_var (pv 0)) (pe_bltn (v := .ty "tuple") (by rfl) T.t_tuple (by decide +kernel) rfl) (by rfl) T.t_isinstance) (d_one (d_chain op_le o2Le bf_I op_le o2Le (d_var (pv 1)) (d_callB call_len (c_len rfl) (by rfl) T.t_len (by decide +kernel) (da_cons (d_var (pv 0)) da_nil)) (d_var (pv 2)))))))
abbrev s_is_kind : Stmt := top 89
abbrev N_is_kind : List Str := ["_law_thing"]
abbrev P_is_kind : List Str := ["_law_thing"]
theorem sc_is_kind : FnScope N_is_kind P_is_kind (defScope s_is_kind) := ⟨rfl, rfl, rfl, by decide +kernel, rfl, by decide +kernel, by decide +kernel⟩
def b_is_kind (c_l_is_word : List D → M D) : Bd :=
  (sRet (vOr (eCall c_l_is_word (aCons (eVar 0) aNil)) (vAn (e1 (fIsi "str") (eVar 0)) (e2 fEq (eVar 0) (eC (.str ("truth" : Str)))))))
theorem ok_is_kind {k : Nat} {a_is_kind : Addr} {d_is_kind : FuncData} {a_l_is_word : Addr} {d_l_is_word : FuncData} {c_l_is_word : List D → M D} (T : Bt mg) (C_is_kind : Cal K mg "_law_is_kind" s_is_kind P_is_kind a_is_kind d_is_kind) (C_l_is_word : Cal K mg "_law_is_word" s_l_is_word P_l_is_word a_l_is_word d_l_is_word) (G_l_is_word : FnOk P w K mg base CX0 k a_l_is_word d_l_is_word P_l_is_word (spM ⟨K, dk⟩ W c_l_is_word)) :
    FnOk P w K mg base CX0 (k + 1) a_is_kind d_is_kind P_is_kind (spM ⟨K, dk⟩ W (fnA 1 1 (b_is_kind c_l_is_word))) :=
  fn_ok [] C_is_kind.F sc_is_kind rfl fun cdv A outer s H E R hr =>
    (db_one (ds_ret (d_or (d_call G_l_is_word (hr.mono (by omega)) (by rfl) C_l_is_word.m C_l_is_word.F.kp C_l_is_word.b (da_cons (d_var (pv 0)) da_nil)) (d_one (d_and (d_isi (d_var (pv 0)) (pe_bltn (v := .ty "str") (by rfl) T.t_str (by decide +kernel) rfl) (by rfl) T.t_isinstance) (d_one (d_eq hr.units (d_var (pv 0)) d_str)))))))
abbrev s_are_kinds : Stmt := top 90
abbrev N_are_kinds : List Str := ["_law_thing", "_law_one"]
abbrev P_are_kinds : List Str := ["_law_thing"]
theorem sc_are_kinds : FnScope N_are_kinds P_are_kinds (defScope s_are_kinds) := ⟨rfl, rfl, rfl, by decide +kernel, rfl, by decide +kernel, by decide +kernel⟩
def b_are_kinds (c_is_kind : List D → M D) (c_l_is_row : List D → M D) : Bd :=
  (sRet (vAn (eCall c_l_is_row (aCons (eVar 0) (aCons (eC (.int 0)) (aCons (eC (.int 3)) aNil)))) (eF (f1 fAll) (aCons (eLc (iSeq (eVar 0)) (gN 1) tY (eCall c_is_kind (aCons (eVar 1) aNil)) [1]) aNil))))
theorem ok_are_kinds {k : Nat} {a_are_kinds : Addr} {d_are_kinds : FuncData} {a_is_kind : Addr} {d_is_kind : FuncData} {c_is_kind : List D → M D} {a_l_is_row : Addr} {d_l_is_row : FuncData} {c_l_is_row : List D → M D} (T : Bt mg) (C_are_kinds : Cal K mg "_law_are_kinds" s_are_kinds P_are_kinds a_are_kinds d_are_kinds) (C_is_kind : Cal K mg "_law_is_kind" s_is_kind P_is_kind a_is_kind d_is_kind) (G_is_kind : FnOk P w K mg base CX0 k a_is_kind d_is_kind P_is_kind (spM ⟨K, dk⟩ W c_is_kind)) (C_l_is_row : Cal K mg "_law_is_row" s_l_is_row P_l_is_row a_l_is_row d_l_is_row) (G_l_is_row : FnOk P w K mg base CX0 k a_l_is_row d_l_is_row P_l_is_row (spM ⟨K, dk⟩ W c_l_is_row)) :
    FnOk P w K mg base CX0 (k + 1) a_are_kinds d_are_kinds P_are_kinds (spM ⟨K, dk⟩ W (fnA 1 2 (b_are_kinds c_is_kind c_l_is_row))) :=
  fn_ok [] C_are_kinds.F sc_are_kinds rfl fun cdv A outer s H E R hr =>
    (db_one (ds_ret (d_and (d_call G_l_is_row (hr.mono (by omega)) (by rfl) C_l_is_row.m C_l_is_row.F.kp C_l_is_row.b (da_cons (d_var (pv 0)) (da_cons d_int (da_cons d_int da_nil)))) (d_one (d_callB (cr_all rfl) c_all (by rfl) T.t_all (by decide +kernel) (da_cons (d_lc (own := [("_law_one", 1)]) sc_are_kinds.nd (di_seq (d_var (pv 0))) (blkOk_by (own := [("_law_one", 1)]) (N := N_are_kinds) (sc := defScope s_are_kinds) (by decide +kernel)) (fun _ _ _ _ _ => (dg_name (pg_name (i := 1) sc_are_kinds.nd rfl (Or.inl rfl)))) (fun _ _ _ _ _ => dts_nil) (fun _ _ _ _ _ => (d_call G_is_kind (hr.mono (by omega)) (by rfl) C_is_kind.m C_is_kind.F.kp C_is_kind.b (da_cons (d_var (pv 1)) da_nil)))) da_nil))))))
abbrev s_kind_formed : Stmt := top 91
abbrev N_kind_formed : List Str := ["_law_thing", "_law_one"]
abbrev P_kind_formed : List Str := ["_law_thing"]
theorem sc_kind_formed : FnScope N_kind_formed P_kind_formed (defScope s_kind_formed) := ⟨rfl, rfl, rfl, by decide +kernel, rfl, by decide +kernel, by decide +kernel⟩
def l1_kind_formed (c_l_is_row : List D → M D) (c_l_is_word : List D → M D) (c_are_kinds : List D → M D) : Bd :=
  (sIf (tOr' (tNt (trB (eCall c_l_is_row (aCons (eVar 1) (aCons (eC (.int 2)) (aCons (eC (.int 2)) aNil)))))) (tOr' (tNt (trB (eCall c_l_is_word (aCons (e2 fDG (eVar 1) (eC (.int 0))) aNil)))) (tNt (trB (eCall c_are_kinds (aCons (e2 fDG (eVar 1) (eC (.int 1))) aNil)))))) (sRet (eC (.bl false))) bNil)
def b_kind_formed (c_are_kinds : List D → M D) (c_l_is_word : List D → M D) (c_l_is_row : List D → M D) : Bd :=
  (bSeq (sIf (tOr' (tNt (trB (eCall c_l_is_row (aCons (eVar 0) (aCons (eC (.int 2)) (aCons (eC (.int 2)) aNil)))))) (tOr' (tNt (trB (eCall c_l_is_word (aCons (e2 fDG (eVar 0) (eC (.int 0))) aNil)))) (tNt (trB (eCall c_l_is_row (aCons (e2 fDG (eVar 0) (eC (.int 1))) (aCons (eC (.int 1)) (aCons (eC (.int 4)) aNil)))))))) (sRet (eC (.bl false))) bNil)
  (bSeq (sFor (iSeq (e2 fDG (eVar 0) (eC (.int 1)))) (gN 1) (l1_kind_formed c_l_is_row c_l_is_word c_are_kinds))
  (sRet (eC (.bl true)))))
theorem ok_kind_formed {k : Nat} {a_kind_formed : Addr} {d_kind_formed : FuncData} {a_are_kinds : Addr} {d_are_kinds : FuncData} {c_are_kinds : List D → M D} {a_l_is_word : Addr} {d_l_is_word : FuncData} {c_l_is_word : List D → M D} {a_l_is_row : Addr} {d_l_is_row : FuncData} {c_l_is_row : List D → M D} (T : Bt mg) (C_kind_formed : Cal K mg "_law_kind_formed" s_kind_formed P_kind_formed a_kind_formed d_kind_formed) (C_are_kinds : Cal K mg "_law_are_kinds" s_are_kinds P_are_kinds a_are_kinds d_are_kinds) (G_are_kinds : FnOk P w K mg base CX0 k a_are_kinds d_are_kinds P_are_kinds (spM ⟨K, dk⟩ W c_are_kinds)) (C_l_is_word : Cal K mg "_law_is_word" s_l_is_word P_l_is_word a_l_is_word d_l_is_word) (G_l_is_word : FnOk P w K mg base CX0 k a_l_is_word d_l_is_word P_l_is_word (spM ⟨K, dk⟩ W c_l_is_word)) (C_l_is_row : Cal K mg "_law_is_row" s_l_is_row P_l_is_row a_l_is_row d_l_is_row) (G_l_is_row : FnOk P w K mg base CX0 k a_l_is_row d_l_is_row P_l_is_row (spM ⟨K, dk⟩ W c_l_is_row)) :
    FnOk P w K mg base CX0 (k + 1) a_kind_formed d_kind_formed P_kind_formed (spM ⟨K, dk⟩ W (fnA 1 2 (b_kind_formed c_are_kinds c_l_is_word c_l_is_row))) :=
  fn_ok [] C_kind_formed.F sc_kind_formed rfl fun cdv A outer s H E R hr =>
    (db_cons (ds_if (dw_pt (dw_or (dt_not (dt_tr (d_call G_l_is_row (hr.mono (by omega)) (by rfl) C_l_is_row.m C_l_is_row.F.kp C_l_is_row.b (da_cons (d_var (pv 0)) (da_cons d_int (da_cons d_int da_nil)))))) (dw_or (dt_not (dt_tr (d_call G_l_is_word (hr.mono (by omega)) (by rfl) C_l_is_word.m C_l_is_word.F.kp C_l_is_word.b (da_cons (d_ixD hr.units (d_var (pv 0)) d_int) da_nil)))) (dw_or1 (dt_not (dt_tr (d_call G_l_is_row (hr.mono (by omega)) (by rfl) C_l_is_row.m C_l_is_row.F.kp C_l_is_row.b (da_cons (d_ixD hr.units (d_var (pv 0)) d_int) (da_cons d_int (da_cons d_int da_nil)))))))))) (db_one (ds_ret d_bl)) db_nil)
    (db_cons (ds_for (di_seq (d_ixD hr.units (d_var (pv 0)) d_int)) (dg_name (pg_name (i := 1) sc_kind_formed.nd rfl (Or.inl rfl))) (db_one (ds_if (dw_pt (dw_or (dt_not (dt_tr (d_call G_l_is_row (hr.mono (by omega)) (by rfl) C_l_is_row.m C_l_is_row.F.kp C_l_is_row.b (da_cons (d_var (pv 1)) (da_cons d_int (da_cons d_int da_nil)))))) (dw_or (dt_not (dt_tr (d_call G_l_is_word (hr.mono (by omega)) (by rfl) C_l_is_word.m C_l_is_word.F.kp C_l_is_word.b (da_cons (d_ixD hr.units (d_var (pv 1)) d_int) da_nil)))) (dw_or1 (dt_not (dt_tr (d_call G_are_kinds (hr.mono (by omega)) (by rfl) C_are_kinds.m C_are_kinds.F.kp C_are_kinds.b (da_cons (d_ixD hr.units (d_var (pv 1)) d_int) da_nil)))))))) (db_one (ds_ret d_bl)) db_nil)))
    (db_one (ds_ret d_bl))))
abbrev s_function_formed : Stmt := top 92
abbrev N_function_formed : List Str := ["_law_thing", "_law_one", "_law_pattern"]
abbrev P_function_formed : List Str := ["_law_thing"]
theorem sc_function_formed : FnScope N_function_formed P_function_formed (defScope s_function_formed) := ⟨rfl, rfl, rfl, by decide +kernel, rfl, by decide +kernel, by decide +kernel⟩
def l1_function_formed (c_l_is_row : List D → M D) (c_is_there : List D → M D) : Bd :=
  (bSeq (sIf (tOr' (tNt (trB (eCall c_l_is_row (aCons (eVar 1) (aCons (eC (.int 2)) (aCons (eC (.int 2)) aNil)))))) (tOr' (tNt (trB (e1 (fIsi "tuple") (e2 fDG (eVar 1) (eC (.int 0)))))) (tNt (trB (eCall c_is_there (aCons (e2 fDG (eVar 1) (eC (.int 1))) (aCons (eC (.int 8)) (aCons (eC (.bl false)) aNil)))))))) (sRet (eC (.bl false))) bNil)
  (sIf (tNt (trB (eF (f1 fAll) (aCons (eLc (iSeq (e2 fDG (eVar 1) (eC (.int 0)))) (gN 2) tY (eCall c_is_there (aCons (eVar 2) (aCons (eC (.int 4)) (aCons (eC (.bl false)) aNil)))) [2]) aNil)))) (sRet (eC (.bl false))) bNil))
def b_function_formed (c_is_there : List D → M D) (c_l_is_row : List D → M D) (c_is_kind : List D → M D) (c_are_kinds : List D → M D) (c_l_is_word : List D → M D) : Bd :=
  (bSeq (sIf (tOr' (tNt (trB (eCall c_l_is_row (aCons (eVar 0) (aCons (eC (.int 4)) (aCons (eC (.int 4)) aNil)))))) (tOr' (tNt (trB (eCall c_l_is_word (aCons (e2 fDG (eVar 0) (eC (.int 0))) aNil)))) (tNt (trB (eCall c_are_kinds (aCons (e2 fDG (eVar 0) (eC (.int 1))) aNil)))))) (sRet (eC (.bl false))) bNil)
  (bSeq (sIf (tOr' (tNt (trB (eCall c_is_kind (aCons (e2 fDG (eVar 0) (eC (.int 2))) aNil)))) (tNt (trB (eCall c_l_is_row (aCons (e2 fDG (eVar 0) (eC (.int 3))) (aCons (eC (.int 1)) (aCons (eC (.int 8)) aNil))))))) (sRet (eC (.bl false))) bNil)
  (bSeq (sFor (iSeq (e2 fDG (eVar 0) (eC (.int 3)))) (gN 1) (l1_function_formed c_l_is_row c_is_there))
  (sRet (eC (.bl true))))))
theorem ok_function_formed {k : Nat} {a_function_formed : Addr} {d_function_formed : FuncData} {a_is_there : Addr} {d_is_there : FuncData} {c_is_there : List D → M D} {a_l_is_row : Addr} {d_l_is_row : FuncData} {c_l_is_row : List D → M D} {a_is_kind : Addr} {d_is_kind : FuncData} {c_is_kind : List D → M D} {a_are_kinds : Addr} {d_are_kinds : FuncData} {c_are_kinds : List D → M D} {a_l_is_word : Addr} {d_l_is_word : FuncData} {c_l_is_word : List D → M D} (T : Bt mg) (C_function_formed : Cal K mg "_law_function_formed" s_function_formed P_function_formed a_function_formed d_function_formed) (C_is_there : Cal K mg "_law_is_there" s_is_there P_is_there a_is_there d_is_there) (G_is_there : FnOk P w K mg base CX0 k a_is_there d_is_there P_is_there (spM ⟨K, dk⟩ W c_is_there)) (C_l_is_row : Cal K mg "_law_is_row" s_l_is_row P_l_is_row a_l_is_row d_l_is_row) (G_l_is_row : FnOk P w K mg base CX0 k a_l_is_row d_l_is_row P_l_is_row (spM ⟨K, dk⟩ W c_l_is_row)) (C_is_kind : Cal K mg "_law_is_kind" s_is_kind P_is_kind a_is_kind d_is_kind) (G_is_kind : FnOk P w K mg base CX0 k a_is_kind d_is_kind P_is_kind (spM ⟨K, dk⟩ W c_is_kind)) (C_are_kinds : Cal K mg "_law_are_kinds" s_are_kinds P_are_kinds a_are_kinds d_are_kinds) (G_are_kinds : FnOk P w K mg base CX0 k a_are_kinds d_are_kinds P_are_kinds (spM ⟨K, dk⟩ W c_are_kinds)) (C_l_is_word : Cal K mg "_law_is_word" s_l_is_word P_l_is_word a_l_is_word d_l_is_word) (G_l_is_word : FnOk P w K mg base CX0 k a_l_is_word d_l_is_word P_l_is_word (spM ⟨K, dk⟩ W c_l_is_word)) :
    FnOk P w K mg base CX0 (k + 1) a_function_formed d_function_formed P_function_formed (spM ⟨K, dk⟩ W (fnA 1 3 (b_function_formed c_is_there c_l_is_row c_is_kind c_are_kinds c_l_is_word))) :=
  fn_ok [] C_function_formed.F sc_function_formed rfl fun cdv A outer s H E R hr =>
    (db_cons (ds_if (dw_pt (dw_or (dt_not (dt_tr (d_call G_l_is_row (hr.mono (by omega)) (by rfl) C_l_is_row.m C_l_is_row.F.kp C_l_is_row.b (da_cons (d_var (pv 0)) (da_cons d_int (da_cons d_int da_nil)))))) (dw_or (dt_not (dt_tr (d_call G_l_is_word (hr.mono (by omega)) (by rfl) C_l_is_word.m C_l_is_word.F.kp C_l_is_word.b (da_cons (d_ixD hr.units (d_var (pv 0)) d_int) da_nil)))) (dw_or1 (dt_not (dt_tr (d_call G_are_kinds (hr.mono (by omega)) (by rfl) C_are_kinds.m C_are_kinds.F.kp C_are_kinds.b (da_cons (d_ixD hr.units (d_var (pv 0)) d_int) da_nil)))))))) (db_one (ds_ret d_bl)) db_nil)
    (db_cons (ds_if (dw_pt (dw_or (dt_not (dt_tr (d_call G_is_kind (hr.mono (by omega)) (by rfl) C_is_kind.m C_is_kind.F.kp C_is_kind.b (da_cons (d_ixD hr.units (d_var (pv 0)) d_int) da_nil)))) (dw_or1 (dt_not (dt_tr (d_call G_l_is_row (hr.mono (by omega)) (by rfl) C_l_is_row.m C_l_is_row.F.kp C_l_is_row.b (da_cons (d_ixD hr.units (d_var (pv 0)) d_int) (da_cons d_int (da_cons d_int da_nil))))))))) (db_one (ds_ret d_bl)) db_nil)
    (db_cons (ds_for (di_seq (d_ixD hr.units (d_var (pv 0)) d_int)) (dg_name (pg_name (i := 1) sc_function_formed.nd rfl (Or.inl rfl))) (db_cons (ds_if (dw_pt (dw_or (dt_not (dt_tr (d_call G_l_is_row (hr.mono (by omega)) (by rfl) C_l_is_row.m C_l_is_row.F.kp C_l_is_row.b (da_cons (d_var (pv 1)) (da_cons d_int (da_cons d_int da_nil)))))) (dw_or (dt_not (dt_tr (d_isi (d_ixD hr.units (d_var (pv 1)) d_int) (pe_bltn (v := .ty "tuple") (by rfl) T.t_tuple (by decide +kernel) rfl) (by rfl) T.t_isinstance))) (dw_or1 (dt_not (dt_tr (d_call G_is_there (hr.mono (by omega)) (by rfl) C_is_there.m C_is_there.F.kp C_is_there.b (da_cons (d_ixD hr.units (d_var (pv 1)) d_int) (da_cons d_int (da_cons d_bl da_nil)))))))))) (db_one (ds_ret d_bl)) db_nil)
    (db_one (ds_if (dt_not (dt_tr (d_callB (cr_all rfl) c_all (by rfl) T.t_all (by decide +kernel) (da_cons (d_lc (own := [("_law_pattern", 2)]) sc_function_formed.nd (di_seq (d_ixD hr.units (d_var (pv 1)) d_int)) (blkOk_by (own := [("_law_pattern", 2)]) (N := N_function_formed) (sc := defScope s_function_formed) (by decide +kernel)) (fun _ _ _ _ _ => (dg_name (pg_name (i := 2) sc_function_formed.nd rfl (Or.inl rfl)))) (fun _ _ _ _ _ => dts_nil) (fun _ _ _ _ _ => (d_call G_is_there (hr.mono (by omega)) (by rfl) C_is_there.m C_is_there.F.kp C_is_there.b (da_cons (d_var (pv 2)) (da_cons d_int (da_cons d_bl da_nil)))))) da_nil)))) (db_one (ds_ret d_bl)) db_nil))))
    (db_one (ds_ret d_bl)))))
abbrev s_formed : Stmt := top 93
abbrev N_formed : List Str := ["_law_kinds", "_law_functions", "_law_one"]
abbrev P_formed : List Str := ["_law_kinds", "_law_functions"]
theorem sc_formed : FnScope N_formed P_formed (defScope s_formed) := ⟨rfl, rfl, rfl, by decide +kernel, rfl, by decide +kernel, by decide +kernel⟩
def b_formed (c_function_formed : List D → M D) (c_kind_formed : List D → M D) (c_l_is_row : List D → M D) : Bd :=
  (bSeq (sIf (tOr' (tNt (trB (eCall c_l_is_row (aCons (eVar 0) (aCons (eC (.int 0)) (aCons (eC (.int 4)) aNil)))))) (tNt (trB (eCall c_l_is_row (aCons (eVar 1) (aCons (eC (.int 0)) (aCons (eC (.int 6)) aNil))))))) (sRet (eC (.bl false))) bNil)
  (sRet (vAn (eF (f1 fAll) (aCons (eLc (iSeq (eVar 0)) (gN 2) tY (eCall c_kind_formed (aCons (eVar 2) aNil)) [2]) aNil)) (eF (f1 fAll) (aCons (eLc (iSeq (eVar 1)) (gN 2) tY (eCall c_function_formed (aCons (eVar 2) aNil)) [2]) aNil)))))
theorem ok_formed {k : Nat} {a_formed : Addr} {d_formed : FuncData} {a_function_formed : Addr} {d_function_formed : FuncData} {c_function_formed : List D → M D} {a_kind_formed : Addr} {d_kind_formed : FuncData} {c_kind_formed : List D → M D} {a_l_is_row : Addr} {d_l_is_row : FuncData} {c_l_is_row : List D → M D} (T : Bt mg) (C_formed : Cal K mg "_law_formed" s_formed P_formed a_formed d_formed) (C_function_formed : Cal K mg "_law_function_formed" s_function_formed P_function_formed a_function_formed d_function_formed) (G_function_formed : FnOk P w K mg base CX0 k a_function_formed d_function_formed P_function_formed (spM ⟨K, dk⟩ W c_function_formed)) (C_kind_formed : Cal K mg "_law_kind_formed" s_kind_formed P_kind_formed a_kind_formed d_kind_formed) (G_kind_formed : FnOk P w K mg base CX0 k a_kind_formed d_kind_formed P_kind_formed (spM ⟨K, dk⟩ W c_kind_formed)) (C_l_is_row : Cal K mg "_law_is_row" s_l_is_row P_l_is_row a_l_is_row d_l_is_row) (G_l_is_row : FnOk P w K mg base CX0 k a_l_is_row d_l_is_row P_l_is_row (spM ⟨K, dk⟩ W c_l_is_row)) :
    FnOk P w K mg base CX0 (k + 1) a_formed d_formed P_formed (spM ⟨K, dk⟩ W (fnA 2 3 (b_formed c_function_formed c_kind_formed c_l_is_row))) :=
  fn_ok [] C_formed.F sc_formed rfl fun cdv A outer s H E R hr =>
    (db_cons (ds_if (dw_pt (dw_or (dt_not (dt_tr (d_call G_l_is_row (hr.mono (by omega)) (by rfl) C_l_is_row.m C_l_is_row.F.kp C_l_is_row.b (da_cons (d_var (pv 0)) (da_cons d_int (da_cons d_int da_nil)))))) (dw_or1 (dt_not (dt_tr (d_call G_l_is_row (hr.mono (by omega)) (by rfl) C_l_is_row.m C_l_is_row.F.kp C_l_is_row.b (da_cons (d_var (pv 1)) (da_cons d_int (da_cons d_int da_nil))))))))) (db_one (ds_ret d_bl)) db_nil)
    (db_one (ds_ret (d_and (d_callB (cr_all rfl) c_all (by rfl) T.t_all (by decide +kernel) (da_cons (d_lc (own := [("_law_one", 2)]) sc_formed.nd (di_seq (d_var (pv 0))) (blkOk_by (own := [("_law_one", 2)]) (N := N_formed) (sc := defScope s_formed) (by decide +kernel)) (fun _ _ _ _ _ => (dg_name (pg_name (i := 2) sc_formed.nd rfl (Or.inl rfl)))) (fun _ _ _ _ _ => dts_nil) (fun _ _ _ _ _ => (d_call G_kind_formed (hr.mono (by omega)) (by rfl) C_kind_formed.m C_kind_formed.F.kp C_kind_formed.b (da_cons (d_var (pv 2)) da_nil)))) da_nil)) (d_one (d_callB (cr_all rfl) c_all (by rfl) T.t_all (by decide +kernel) (da_cons (d_lc (own := [("_law_one", 2)]) sc_formed.nd (di_seq (d_var (pv 1))) (blkOk_by (own := [("_law_one", 2)]) (N := N_formed) (sc := defScope s_formed) (by decide +kernel)) (fun _ _ _ _ _ => (dg_name (pg_name (i := 2) sc_formed.nd rfl (Or.inl rfl)))) (fun _ _ _ _ _ => dts_nil) (fun _ _ _ _ _ => (d_call G_function_formed (hr.mono (by omega)) (by rfl) C_function_formed.m C_function_formed.F.kp C_function_formed.b (da_cons (d_var (pv 2)) da_nil)))) da_nil)))))))
abbrev s_maker : Stmt := top 94
abbrev N_maker : List Str := ["_law_kinds", "_law_name", "_law_kind", "_law_makers", "_law_maker_here", "_law_parts"]
abbrev P_maker : List Str := ["_law_kinds", "_law_name"]
theorem sc_maker : FnScope N_maker P_maker (defScope s_maker) := ⟨rfl, rfl, rfl, by decide +kernel, rfl, by decide +kernel, by decide +kernel⟩
def l1_maker : Bd :=
  (sIf (trB (e2 fEq (eVar 4) (eVar 1))) (sRet (eTup (aCons (eVar 2) (aCons (eVar 5) aNil)))) bNil)
def l2_maker : Bd :=
  (sFor (iSeq (eVar 3)) (gT (gsC (gN 4) (gsC (gN 5) gsN))) (l1_maker))
def b_maker : Bd :=
  (bSeq (sFor (iSeq (e2 fAdd (eVar 0) (eTup (aCons (eTup (aCons (eC (.str ("truth" : Str))) (aCons (eTup (aCons (eTup (aCons (eC (.str ("yes" : Str))) (aCons (eTup aNil) aNil))) (aCons (eTup (aCons (eC (.str ("no" : Str))) (aCons (eTup aNil) aNil))) aNil))) aNil))) aNil)))) (gT (gsC (gN 2) (gsC (gN 3) gsN))) (l2_maker))
  (sRet (eC .non)))
theorem ok_maker {k : Nat} {a_maker : Addr} {d_maker : FuncData} (T : Bt mg) (C_maker : Cal K mg "_law_maker" s_maker P_maker a_maker d_maker) :
    FnOk P w K mg base CX0 (k + 1) a_maker d_maker P_maker (spM ⟨K, dk⟩ W (fnA 2 6 (b_maker))) :=
  fn_ok [] C_maker.F sc_maker rfl fun cdv A outer s H E R hr =>
    (db_cons (ds_for (di_seq (d_add (d_var (pv 0)) (d_tup (da_cons (d_tup (da_cons d_str (da_cons (d_tup (da_cons (d_tup (da_cons d_str (da_cons (d_tup da_nil aNil_len) da_nil)) (aCons_len (aCons_len aNil_len))) (da_cons (d_tup (da_cons d_str (da_cons (d_tup da_nil aNil_len) da_nil)) (aCons_len (aCons_len aNil_len))) da_nil)) (aCons_len (aCons_len aNil_len))) da_nil)) (aCons_len (aCons_len aNil_len))) da_nil) (aCons_len aNil_len)))) (dg_tup (dgs_cons (dg_name (pg_name (i := 2) sc_maker.nd rfl (Or.inl rfl))) (dgs_cons (dg_name (pg_name (i := 3) sc_maker.nd rfl (Or.inl rfl))) dgs_nil))) (db_one (ds_for (di_seq (d_var (pv 3))) (dg_tup (dgs_cons (dg_name (pg_name (i := 4) sc_maker.nd rfl (Or.inl rfl))) (dgs_cons (dg_name (pg_name (i := 5) sc_maker.nd rfl (Or.inl rfl))) dgs_nil))) (db_one (ds_if (dt_eq hr.units (d_var (pv 4)) (d_var (pv 1))) (db_one (ds_ret (d_tup (da_cons (d_var (pv 2)) (da_cons (d_var (pv 5)) da_nil)) (aCons_len (aCons_len aNil_len))))) db_nil)))))
    (db_one (ds_ret d_non)))
abbrev s_head : Stmt := top 95
abbrev N_head : List Str := ["_law_functions", "_law_name", "_law_row"]
abbrev P_head : List Str := ["_law_functions", "_law_name"]
theorem sc_head : FnScope N_head P_head (defScope s_head) := ⟨rfl, rfl, rfl, by decide +kernel, rfl, by decide +kernel, by decide +kernel⟩
def l1_head : Bd :=
  (sIf (trB (e2 fEq (e2 fDG (eVar 2) (eC (.int 0))) (eVar 1))) (sRet (eTup (aCons (e2 fDG (eVar 2) (eC (.int 2))) (aCons (e2 fDG (eVar 2) (eC (.int 1))) aNil)))) bNil)
def b_head : Bd :=
  (bSeq (sFor (iSeq (eVar 0)) (gN 2) (l1_head))
  (sRet (eC .non)))
theorem ok_head {k : Nat} {a_head : Addr} {d_head : FuncData} (T : Bt mg) (C_head : Cal K mg "_law_head" s_head P_head a_head d_head) :
    FnOk P w K mg base CX0 (k + 1) a_head d_head P_head (spM ⟨K, dk⟩ W (fnA 2 3 (b_head))) :=
  fn_ok [] C_head.F sc_head rfl fun cdv A outer s H E R hr =>
    (db_cons (ds_for (di_seq (d_var (pv 0))) (dg_name (pg_name (i := 2) sc_head.nd rfl (Or.inl rfl))) (db_one (ds_if (dt_eq hr.units (d_ixD hr.units (d_var (pv 2)) d_int) (d_var (pv 1))) (db_one (ds_ret (d_tup (da_cons (d_ixD hr.units (d_var (pv 2)) d_int) (da_cons (d_ixD hr.units (d_var (pv 2)) d_int) da_nil)) (aCons_len (aCons_len aNil_len))))) db_nil)))
    (db_one (ds_ret d_non)))
abbrev s_told_by : Stmt := top 96
abbrev N_told_by : List Str := ["_law_world", "_law_names", "_law_saying", "_law_path", "_law_found"]
abbrev P_told_by : List Str := ["_law_world", "_law_names", "_law_saying", "_law_path"]
theorem sc_told_by : FnScope N_told_by P_told_by (defScope s_told_by) := ⟨rfl, rfl, rfl, by decide +kernel, rfl, by decide +kernel, by decide +kernel⟩
def b_told_by (c_head : List D → M D) (c_maker : List D → M D) (c_told_by : List D → M D) : Bd :=
  (bSeq (sIf (trB (e2 fEq (e2 fDG (eVar 2) (eC (.int 0))) (eC (.str ("either" : Str))))) (sRet (eCall c_told_by (aCons (eVar 0) (aCons (eVar 1) (aCons (e2 fDG (eVar 2) (eC (.int 1))) (aCons (e2 fAdd (eVar 3) (eTup (aCons (eC (.int 0)) aNil))) aNil)))))) bNil)
  (bSeq (sIf (trB (e2 fEq (e2 fDG (eVar 2) (eC (.int 0))) (eC (.str ("same" : Str))))) (sRet (eTup (aCons (eC (.str ("truth" : Str))) (aCons (eVar 3) aNil)))) bNil)
  (bSeq (sIf (trB (e2 fEq (e2 fDG (eVar 2) (eC (.int 0))) (eC (.str ("name" : Str))))) (sRet (eTup (aCons (eGet (eVar 1) (e2 fDG (eVar 2) (eC (.int 1))) (eC .non)) (aCons (eVar 3) aNil)))) bNil)
  (bSeq (sSet 4 (e2 fDG (eLst (aCons (eCall c_maker (aCons (e2 fDG (eVar 0) (eC (.int 0))) (aCons (e2 fDG (eVar 2) (eC (.int 1))) aNil))) (aCons (eCall c_head (aCons (e2 fDG (eVar 0) (eC (.int 1))) (aCons (e2 fDG (eVar 2) (eC (.int 1))) aNil))) aNil))) (eF (f1 fInt) (aCons (e2 fEq (e2 fDG (eVar 2) (eC (.int 0))) (eC (.str ("call" : Str)))) aNil))))
  (bSeq (sIf (trB (e2 fIs (eVar 4) (eC .non))) (sRet (eTup (aCons (eC .non) (aCons (eVar 3) aNil)))) bNil)
  (sRet (eTup (aCons (e2 fDG (eVar 4) (eC (.int 0))) (aCons (eVar 3) aNil)))))))))
theorem ok_told_by {k : Nat} {a_told_by : Addr} {d_told_by : FuncData} {a_head : Addr} {d_head : FuncData} {c_head : List D → M D} {a_maker : Addr} {d_maker : FuncData} {c_maker : List D → M D} {c_told_by : List D → M D} (T : Bt mg) (C_told_by : Cal K mg "_law_told_by" s_told_by P_told_by a_told_by d_told_by) (C_head : Cal K mg "_law_head" s_head P_head a_head d_head) (G_head : FnOk P w K mg base CX0 k a_head d_head P_head (spM ⟨K, dk⟩ W c_head)) (C_maker : Cal K mg "_law_maker" s_maker P_maker a_maker d_maker) (G_maker : FnOk P w K mg base CX0 k a_maker d_maker P_maker (spM ⟨K, dk⟩ W c_maker)) (G_told_by : FnOk P w K mg base CX0 k a_told_by d_told_by P_told_by (spM ⟨K, dk⟩ W c_told_by)) :
    FnOk P w K mg base CX0 (k + 1) a_told_by d_told_by P_told_by (spM ⟨K, dk⟩ W (fnA 4 5 (b_told_by c_head c_maker c_told_by))) :=
  fn_ok [] C_told_by.F sc_told_by rfl fun cdv A outer s H E R hr =>
    (db_cons (ds_if (dt_eq hr.units (d_ixD hr.units (d_var (pv 2)) d_int) d_str) (db_one (ds_ret (d_call G_told_by (hr.mono (by omega)) (by rfl) C_told_by.m C_told_by.F.kp C_told_by.b (da_cons (d_var (pv 0)) (da_cons (d_var (pv 1)) (da_cons (d_ixD hr.units (d_var (pv 2)) d_int) (da_cons (d_add (d_var (pv 3)) (d_tup (da_cons d_int da_nil) (aCons_len aNil_len))) da_nil))))))) db_nil)
    (db_cons (ds_if (dt_eq hr.units (d_ixD hr.units (d_var (pv 2)) d_int) d_str) (db_one (ds_ret (d_tup (da_cons d_str (da_cons (d_var (pv 3)) da_nil)) (aCons_len (aCons_len aNil_len))))) db_nil)
    (db_cons (ds_if (dt_eq hr.units (d_ixD hr.units (d_var (pv 2)) d_int) d_str) (db_one (ds_ret (d_tup (da_cons (d_get2 hr.units (d_var (pv 1)) (d_ixD hr.units (d_var (pv 2)) d_int) d_non) (da_cons (d_var (pv 3)) da_nil)) (aCons_len (aCons_len aNil_len))))) db_nil)
    (db_cons (ds_set (i := 4) sc_told_by.nd rfl (Or.inl rfl) (d_ixD hr.units (d_lst (da_cons (d_call G_maker (hr.mono (by omega)) (by rfl) C_maker.m C_maker.F.kp C_maker.b (da_cons (d_ixD hr.units (d_var (pv 0)) d_int) (da_cons (d_ixD hr.units (d_var (pv 2)) d_int) da_nil))) (da_cons (d_call G_head (hr.mono (by omega)) (by rfl) C_head.m C_head.F.kp C_head.b (da_cons (d_ixD hr.units (d_var (pv 0)) d_int) (da_cons (d_ixD hr.units (d_var (pv 2)) d_int) da_nil))) da_nil)) (aCons_len (aCons_len aNil_len))) (d_callT call_int1 c_int (by rfl) T.t_int (by decide +kernel) (da_cons (d_eq hr.units (d_ixD hr.units (d_var (pv 2)) d_int) d_str) da_nil))))
    (db_cons (ds_if (dt_is (d_var (pv 4)) d_non) (db_one (ds_ret (d_tup (da_cons d_non (da_cons (d_var (pv 3)) da_nil)) (aCons_len (aCons_len aNil_len))))) db_nil)
    (db_one (ds_ret (d_tup (da_cons (d_ixD hr.units (d_var (pv 4)) d_int) (da_cons (d_var (pv 3)) da_nil)) (aCons_len (aCons_len aNil_len))))))))))
abbrev s_wrong : Stmt := top 97
abbrev N_wrong : List Str := ["_law_world", "_law_names", "_law_saying", "_law_due", "_law_path", "_law_kinds", "_law_kind", "_law_at", "_law_parts", "_law_found", "_law_part"]
abbrev P_wrong : List Str := ["_law_world", "_law_names", "_law_saying", "_law_due", "_law_path"]
theorem sc_wrong : FnScope N_wrong P_wrong (defScope s_wrong) := ⟨rfl, rfl, rfl, by decide +kernel, rfl, by decide +kernel, by decide +kernel⟩
def l1_wrong (c_wrong : List D → M D) : Bd :=
  (bSeq (sSet 9 (eCall c_wrong (aCons (eVar 0) (aCons (eVar 1) (aCons (eVar 10) (aCons (e2 fDG (eVar 5) (eVar 7)) (aCons (e2 fAdd (eVar 4) (eTup (aCons (eVar 7) aNil))) aNil)))))))
  (sIf (trB (e2 fIsNot (eVar 9) (eC .non))) (sRet (eVar 9)) bNil))
def b_wrong (c_wrong : List D → M D) (c_told_by : List D → M D) (c_head : List D → M D) (c_maker : List D → M D) : Bd :=
  (bSeq (sIf (trB (e2 fEq (e2 fDG (eVar 2) (eC (.int 0))) (eC (.str ("name" : Str))))) (sRet (e2 fDG (eLst (aCons (eVar 4) (aCons (eC .non) aNil))) (eF (f1 fInt) (aCons (e2 fEq (eGet (eVar 1) (e2 fDG (eVar 2) (eC (.int 1))) (eC .non)) (eVar 3)) aNil)))) bNil)
  (bSeq (sIf (tAn (trB (e2 fEq (e2 fDG (eVar 2) (eC (.int 0))) (eC (.str ("same" : Str))))) (trB (e2 fNe (eVar 3) (eC (.str ("truth" : Str)))))) (sRet (eVar 4)) bNil)
  (bSeq (sIf (trB (e2 fInD (e2 fDG (eVar 2) (eC (.int 0))) (eLst (aCons (eC (.str ("either" : Str))) (aCons (eC (.str ("same" : Str))) aNil))))) (bSeq (sSet 5 (eTup (aCons (eVar 3) (aCons (eVar 3) aNil))))
  (bSeq (sIf (trB (e2 fEq (e2 fDG (eVar 2) (eC (.int 0))) (eC (.str ("same" : Str))))) (bSeq (sAsg (eCall c_told_by (aCons (eVar 0) (aCons (eVar 1) (aCons (e2 fDG (eVar 2) (eC (.int 1))) (aCons (e2 fAdd (eVar 4) (eTup (aCons (eC (.int 0)) aNil))) aNil))))) (gT (gsC (gN 6) (gsC (gN 7) gsN))))
  (bSeq (sIf (trB (e2 fIs (eVar 6) (eC .non))) (sRet (eVar 7)) bNil)
  (sSet 5 (eTup (aCons (eVar 6) (aCons (eVar 6) aNil)))))) bNil)
  (sSet 8 (eSl (eVar 2) (pSome (eC (.int 1))) (fun _ => Mp none))))) (bSeq (sSet 9 (e2 fDG (eLst (aCons (eCall c_maker (aCons (e2 fDG (eVar 0) (eC (.int 0))) (aCons (e2 fDG (eVar 2) (eC (.int 1))) aNil))) (aCons (eCall c_head (aCons (e2 fDG (eVar 0) (eC (.int 1))) (aCons (e2 fDG (eVar 2) (eC (.int 1))) aNil))) aNil))) (eF (f1 fInt) (aCons (e2 fEq (e2 fDG (eVar 2) (eC (.int 0))) (eC (.str ("call" : Str)))) aNil))))
  (bSeq (sIf (tOr' (trB (e2 fIs (eVar 9) (eC .non))) (tOr' (trB (e2 fNe (e2 fDG (eVar 9) (eC (.int 0))) (eVar 3))) (trB (e2 fNe (eF (f1 fLen) (aCons (e2 fDG (eVar 9) (eC (.int 1))) aNil)) (eF (f1 fLen) (aCons (e2 fDG (eVar 2) (eC (.int 2))) aNil)))))) (sRet (eVar 4)) bNil)
  (bSeq (sSet 5 (e2 fDG (eVar 9) (eC (.int 1))))
  (sSet 8 (e2 fDG (eVar 2) (eC (.int 2))))))))
  (bSeq (sFor (i1 fEnum (eVar 8)) (gT (gsC (gN 7) (gsC (gN 10) gsN))) (l1_wrong c_wrong))
  (sRet (eC .non))))))
theorem ok_wrong {k : Nat} {a_wrong : Addr} {d_wrong : FuncData} {a_told_by : Addr} {d_told_by : FuncData} {c_told_by : List D → M D} {a_head : Addr} {d_head : FuncData} {c_head : List D → M D} {a_maker : Addr} {d_maker : FuncData} {c_maker : List D → M D} {c_wrong : List D → M D} (T : Bt mg) (C_wrong : Cal K mg "_law_wrong" s_wrong P_wrong a_wrong d_wrong) (G_wrong : FnOk P w K mg base CX0 k a_wrong d_wrong P_wrong (spM ⟨K, dk⟩ W c_wrong)) (C_told_by : Cal K mg "_law_told_by" s_told_by P_told_by a_told_by d_told_by) (G_told_by : FnOk P w K mg base CX0 k a_told_by d_told_by P_told_by (spM ⟨K, dk⟩ W c_told_by)) (C_head : Cal K mg "_law_head" s_head P_head a_head d_head) (G_head : FnOk P w K mg base CX0 k a_head d_head P_head (spM ⟨K, dk⟩ W c_head)) (C_maker : Cal K mg "_law_maker" s_maker P_maker a_maker d_maker) (G_maker : FnOk P w K mg base CX0 k a_maker d_maker P_maker (spM ⟨K, dk⟩ W c_maker)) :
    FnOk P w K mg base CX0 (k + 1) a_wrong d_wrong P_wrong (spM ⟨K, dk⟩ W (fnA 5 11 (b_wrong c_wrong c_told_by c_head c_maker))) :=
  fn_ok [] C_wrong.F sc_wrong rfl fun cdv A outer s H E R hr =>
    (db_cons (ds_if (dt_eq hr.units (d_ixD hr.units (d_var (pv 2)) d_int) d_str) (db_one (ds_ret (d_ixD hr.units (d_lst (da_cons (d_var (pv 4)) (da_cons d_non da_nil)) (aCons_len (aCons_len aNil_len))) (d_callT call_int1 c_int (by rfl) T.t_int (by decide +kernel) (da_cons (d_eq hr.units (d_get2 hr.units (d_var (pv 1)) (d_ixD hr.units (d_var (pv 2)) d_int) d_non) (d_var (pv 3))) da_nil))))) db_nil)
    (db_cons (ds_if (dw_pt (dw_and (dt_eq hr.units (d_ixD hr.units (d_var (pv 2)) d_int) d_str) (dw_and1 (dt_ne hr.units (d_var (pv 3)) d_str)))) (db_one (ds_ret (d_var (pv 4)))) db_nil)
    (db_cons (ds_if (dt_inD hr.units (d_ixD hr.units (d_var (pv 2)) d_int) (d_lst (da_cons d_str (da_cons d_str da_nil)) (aCons_len (aCons_len aNil_len)))) (db_cons (ds_set (i := 5) sc_wrong.nd rfl (Or.inl rfl) (d_tup (da_cons (d_var (pv 3)) (da_cons (d_var (pv 3)) da_nil)) (aCons_len (aCons_len aNil_len))))
    (db_cons (ds_if (dt_eq hr.units (d_ixD hr.units (d_var (pv 2)) d_int) d_str) (db_cons (ds_asg (d_call G_told_by (hr.mono (by omega)) (by rfl) C_told_by.m C_told_by.F.kp C_told_by.b (da_cons (d_var (pv 0)) (da_cons (d_var (pv 1)) (da_cons (d_ixD hr.units (d_var (pv 2)) d_int) (da_cons (d_add (d_var (pv 4)) (d_tup (da_cons d_int da_nil) (aCons_len aNil_len))) da_nil))))) (dg_tup (dgs_cons (dg_name (pg_name (i := 6) sc_wrong.nd rfl (Or.inl rfl))) (dgs_cons (dg_name (pg_name (i := 7) sc_wrong.nd rfl (Or.inl rfl))) dgs_nil))))
    (db_cons (ds_if (dt_is (d_var (pv 6)) d_non) (db_one (ds_ret (d_var (pv 7)))) db_nil)
    (db_one (ds_set (i := 5) sc_wrong.nd rfl (Or.inl rfl) (d_tup (da_cons (d_var (pv 6)) (da_cons (d_var (pv 6)) da_nil)) (aCons_len (aCons_len aNil_len))))))) db_nil)
    (db_one (ds_set (i := 8) sc_wrong.nd rfl (Or.inl rfl) (d_sl (d_var (pv 2)) (dp_some d_int) dp_none))))) (db_cons (ds_set (i := 9) sc_wrong.nd rfl (Or.inl rfl) (d_ixD hr.units (d_lst (da_cons (d_call G_maker (hr.mono (by omega)) (by rfl) C_maker.m C_maker.F.kp C_maker.b (da_cons (d_ixD hr.units (d_var (pv 0)) d_int) (da_cons (d_ixD hr.units (d_var (pv 2)) d_int) da_nil))) (da_cons (d_call G_head (hr.mono (by omega)) (by rfl) C_head.m C_head.F.kp C_head.b (da_cons (d_ixD hr.units (d_var (pv 0)) d_int) (da_cons (d_ixD hr.units (d_var (pv 2)) d_int) da_nil))) da_nil)) (aCons_len (aCons_len aNil_len))) (d_callT call_int1 c_int (by rfl) T.t_int (by decide +kernel) (da_cons (d_eq hr.units (d_ixD hr.units (d_var (pv 2)) d_int) d_str) da_nil))))
    (db_cons (ds_if (dw_pt (dw_or (dt_is (d_var (pv 9)) d_non) (dw_or (dt_ne hr.units (d_ixD hr.units (d_var (pv 9)) d_int) (d_var (pv 3))) (dw_or1 (dt_ne hr.units (d_callB call_len (c_len rfl) (by rfl) T.t_len (by decide +kernel) (da_cons (d_ixD hr.units (d_var (pv 9)) d_int) da_nil)) (d_callB call_len (c_len rfl) (by rfl) T.t_len (by decide +kernel) (da_cons (d_ixD hr.units (d_var (pv 2)) d_int) da_nil))))))) (db_one (ds_ret (d_var (pv 4)))) db_nil)
    (db_cons (ds_set (i := 5) sc_wrong.nd rfl (Or.inl rfl) (d_ixD hr.units (d_var (pv 9)) d_int))
    (db_one (ds_set (i := 8) sc_wrong.nd rfl (Or.inl rfl) (d_ixD hr.units (d_var (pv 2)) d_int)))))))
    (db_cons (ds_for (di_enum (d_var (pv 8)) (by rfl) T.t_enumerate) (dg_tup (dgs_cons (dg_name (pg_name (i := 7) sc_wrong.nd rfl (Or.inl rfl))) (dgs_cons (dg_name (pg_name (i := 10) sc_wrong.nd rfl (Or.inl rfl))) dgs_nil))) (db_cons (ds_set (i := 9) sc_wrong.nd rfl (Or.inl rfl) (d_call G_wrong (hr.mono (by omega)) (by rfl) C_wrong.m C_wrong.F.kp C_wrong.b (da_cons (d_var (pv 0)) (da_cons (d_var (pv 1)) (da_cons (d_var (pv 10)) (da_cons (d_ixD hr.units (d_var (pv 5)) (d_var (pv 7))) (da_cons (d_add (d_var (pv 4)) (d_tup (da_cons (d_var (pv 7)) da_nil) (aCons_len aNil_len))) da_nil)))))))
    (db_one (ds_if (dt_isnot (d_var (pv 9)) d_non) (db_one (ds_ret (d_var (pv 9)))) db_nil))))
    (db_one (ds_ret d_non))))))
abbrev s_wrong_left : Stmt := top 98
abbrev N_wrong_left : List Str := ["_law_world", "_law_kept", "_law_saying", "_law_due", "_law_path", "_law_name", "_law_found", "_law_at", "_law_part", "_law_wrong_here"]
abbrev P_wrong_left : List Str := ["_law_world", "_law_kept", "_law_saying", "_law_due", "_law_path"]
theorem sc_wrong_left : FnScope N_wrong_left P_wrong_left (defScope s_wrong_left) := ⟨rfl, rfl, rfl, by decide +kernel, rfl, by decide +kernel, by decide +kernel⟩
def b_wrong_left : Bd :=
  bNo
theorem ok_wrong_left {k : Nat} {a_wrong_left : Addr} {d_wrong_left : FuncData} (T : Bt mg) (C_wrong_left : Cal K mg "_law_wrong_left" s_wrong_left P_wrong_left a_wrong_left d_wrong_left) :
    FnOk P w K mg base CX0 (k + 1) a_wrong_left d_wrong_left P_wrong_left (spM ⟨K, dk⟩ W (fnA 5 10 (b_wrong_left))) :=
  fn_ok [] C_wrong_left.F sc_wrong_left rfl fun cdv A outer s H E R hr =>
    db_no
abbrev s_counted : Stmt := top 99
abbrev N_counted : List Str := ["_law_saying", "_law_name", "_law_parts", "_law_part"]
abbrev P_counted : List Str := ["_law_saying", "_law_name"]
theorem sc_counted : FnScope N_counted P_counted (defScope s_counted) := ⟨rfl, rfl, rfl, by decide +kernel, rfl, by decide +kernel, by decide +kernel⟩
def b_counted (c_counted : List D → M D) : Bd :=
  (bSeq (sIf (trB (e2 fEq (e2 fDG (eVar 0) (eC (.int 0))) (eC (.str ("name" : Str))))) (sRet (eF (f1 fInt) (aCons (e2 fEq (e2 fDG (eVar 0) (eC (.int 1))) (eVar 1)) aNil))) bNil)
  (bSeq (sSet 2 (eSl (eVar 0) (pSome (eC (.int 1))) (fun _ => Mp none)))
  (bSeq (sIf (trB (e2 fInD (e2 fDG (eVar 0) (eC (.int 0))) (eLst (aCons (eC (.str ("made" : Str))) (aCons (eC (.str ("call" : Str))) aNil))))) (sSet 2 (e2 fDG (eVar 0) (eC (.int 2)))) bNil)
  (sRet (eF (f1 fSum) (aCons (eLc (iSeq (eVar 2)) (gN 3) tY (eCall c_counted (aCons (eVar 3) (aCons (eVar 1) aNil))) [3]) aNil))))))
theorem ok_counted {k : Nat} {a_counted : Addr} {d_counted : FuncData} {c_counted : List D → M D} (T : Bt mg) (C_counted : Cal K mg "_law_counted" s_counted P_counted a_counted d_counted) (G_counted : FnOk P w K mg base CX0 k a_counted d_counted P_counted (spM ⟨K, dk⟩ W c_counted)) :
    FnOk P w K mg base CX0 (k + 1) a_counted d_counted P_counted (spM ⟨K, dk⟩ W (fnA 2 4 (b_counted c_counted))) :=
  fn_ok [] C_counted.F sc_counted rfl fun cdv A outer s H E R hr =>
    (db_cons (ds_if (dt_eq hr.units (d_ixD hr.units (d_var (pv 0)) d_int) d_str) (db_one (ds_ret (d_callT call_int1 c_int (by rfl) T.t_int (by decide +kernel) (da_cons (d_eq hr.units (d_ixD hr.units (d_var (pv 0)) d_int) (d_var (pv 1))) da_nil)))) db_nil)
    (db_cons (ds_set (i := 2) sc_counted.nd rfl (Or.inl rfl) (d_sl (d_var (pv 0)) (dp_some d_int) dp_none))
    (db_cons (ds_if (dt_inD hr.units (d_ixD hr.units (d_var (pv 0)) d_int) (d_lst (da_cons d_str (da_cons d_str da_nil)) (aCons_len (aCons_len aNil_len)))) (db_one (ds_set (i := 2) sc_counted.nd rfl (Or.inl rfl) (d_ixD hr.units (d_var (pv 0)) d_int))) db_nil)
    (db_one (ds_ret (d_callB (cr_sum rfl) c_sum (by rfl) T.t_sum (by decide +kernel) (da_cons (d_lc (own := [("_law_part", 3)]) sc_counted.nd (di_seq (d_var (pv 2))) (blkOk_by (own := [("_law_part", 3)]) (N := N_counted) (sc := defScope s_counted) (by decide +kernel)) (fun _ _ _ _ _ => (dg_name (pg_name (i := 3) sc_counted.nd rfl (Or.inl rfl)))) (fun _ _ _ _ _ => dts_nil) (fun _ _ _ _ _ => (d_call G_counted (hr.mono (by omega)) (by rfl) C_counted.m C_counted.F.kp C_counted.b (da_cons (d_var (pv 3)) (da_cons (d_var (pv 1)) da_nil))))) da_nil)))))))
abbrev s_l_wrong_rule : Stmt := top 100
abbrev N_l_wrong_rule : List Str := ["_law_world", "_law_f", "_law_r", "_law_word", "_law_own", "_law_kind", "_law_rules", "_law_left", "_law_right", "_law_kept", "_law_at", "_law_pattern", "_law_wrong_here", "_law_name"]
abbrev P_l_wrong_rule : List Str := ["_law_world", "_law_f", "_law_r"]
theorem sc_l_wrong_rule : FnScope N_l_wrong_rule P_l_wrong_rule (defScope s_l_wrong_rule) := ⟨rfl, rfl, rfl, by decide +kernel, rfl, by decide +kernel, by decide +kernel⟩
def l1_l_wrong_rule (c_wrong_left : List D → M D) : Bd :=
  (bSeq (sSet 12 (eCall c_wrong_left (aCons (eVar 0) (aCons (eVar 9) (aCons (eVar 11) (aCons (e2 fDG (eVar 4) (eVar 10)) (aCons (eTup (aCons (eVar 10) aNil)) aNil)))))))
  (sIf (trB (e2 fIsNot (eVar 12) (eC .non))) (sRet (eTup (aCons (eC (.str ("left" : Str))) (aCons (eVar 1) (aCons (eVar 2) (aCons (eVar 12) aNil)))))) bNil))
def b_l_wrong_rule (c_wrong : List D → M D) (c_wrong_left : List D → M D) : Bd :=
  (bSeq (sAsg (e2 fDG (e2 fDG (eVar 0) (eC (.int 1))) (eVar 1)) (gT (gsC (gN 3) (gsC (gN 4) (gsC (gN 5) (gsC (gN 6) gsN))))))
  (bSeq (sAsg (e2 fDG (eVar 6) (eVar 2)) (gT (gsC (gN 7) (gsC (gN 8) gsN))))
  (bSeq (sIf (trB (e2 fNe (eF (f1 fLen) (aCons (eVar 7) aNil)) (eF (f1 fLen) (aCons (eVar 4) aNil)))) (sRet (eTup (aCons (eC (.str ("left" : Str))) (aCons (eVar 1) (aCons (eVar 2) (aCons (eTup aNil) aNil)))))) bNil)
  (bSeq (sSet 9 (eC (.dk [] [])))
  (bSeq (sFor (i1 fEnum (eVar 7)) (gT (gsC (gN 10) (gsC (gN 11) gsN))) (l1_l_wrong_rule c_wrong_left))
  (bSeq (sSet 12 (eCall c_wrong (aCons (eVar 0) (aCons (eVar 9) (aCons (eVar 8) (aCons (eVar 5) (aCons (eTup aNil) aNil)))))))
  (bSeq (sIf (trB (e2 fIsNot (eVar 12) (eC .non))) (sRet (eTup (aCons (eC (.str ("right" : Str))) (aCons (eVar 1) (aCons (eVar 2) (aCons (eVar 12) aNil)))))) bNil)
  (sRet (e2 fDG (eLst (aCons (eC .non) (aCons (eTup (aCons (eC (.str ("right" : Str))) (aCons (eVar 1) (aCons (eVar 2) (aCons (eTup aNil) aNil))))) aNil))) (eF (f1 fInt) (aCons (e2 fGt (eF (f1 fLen) (aCons (e1 fK0 (eVar 9)) aNil)) (eC (.int 0))) aNil)))))))))))
theorem ok_l_wrong_rule {k : Nat} {a_l_wrong_rule : Addr} {d_l_wrong_rule : FuncData} {a_wrong : Addr} {d_wrong : FuncData} {c_wrong : List D → M D} {a_wrong_left : Addr} {d_wrong_left : FuncData} {c_wrong_left : List D → M D} (T : Bt mg) (C_l_wrong_rule : Cal K mg "_law_wrong_rule" s_l_wrong_rule P_l_wrong_rule a_l_wrong_rule d_l_wrong_rule) (C_wrong : Cal K mg "_law_wrong" s_wrong P_wrong a_wrong d_wrong) (G_wrong : FnOk P w K mg base CX0 k a_wrong d_wrong P_wrong (spM ⟨K, dk⟩ W c_wrong)) (C_wrong_left : Cal K mg "_law_wrong_left" s_wrong_left P_wrong_left a_wrong_left d_wrong_left) (G_wrong_left : FnOk P w K mg base CX0 k a_wrong_left d_wrong_left P_wrong_left (spM ⟨K, dk⟩ W c_wrong_left)) :
    FnOk P w K mg base CX0 (k + 1) a_l_wrong_rule d_l_wrong_rule P_l_wrong_rule (spM ⟨K, dk⟩ W (fnA 3 14 (b_l_wrong_rule c_wrong c_wrong_left))) :=
  fn_ok [] C_l_wrong_rule.F sc_l_wrong_rule rfl fun cdv A outer s H E R hr =>
    (db_cons (ds_asg (d_ixD hr.units (d_ixD hr.units (d_var (pv 0)) d_int) (d_var (pv 1))) (dg_tup (dgs_cons (dg_name (pg_name (i := 3) sc_l_wrong_rule.nd rfl (Or.inl rfl))) (dgs_cons (dg_name (pg_name (i := 4) sc_l_wrong_rule.nd rfl (Or.inl rfl))) (dgs_cons (dg_name (pg_name (i := 5) sc_l_wrong_rule.nd rfl (Or.inl rfl))) (dgs_cons (dg_name (pg_name (i := 6) sc_l_wrong_rule.nd rfl (Or.inl rfl))) dgs_nil))))))
    (db_cons (ds_asg (d_ixD hr.units (d_var (pv 6)) (d_var (pv 2))) (dg_tup (dgs_cons (dg_name (pg_name (i := 7) sc_l_wrong_rule.nd rfl (Or.inl rfl))) (dgs_cons (dg_name (pg_name (i := 8) sc_l_wrong_rule.nd rfl (Or.inr rfl))) dgs_nil))))
    (db_cons (ds_if (dt_ne hr.units (d_callB call_len (c_len rfl) (by rfl) T.t_len (by decide +kernel) (da_cons (d_var (pv 7)) da_nil)) (d_callB call_len (c_len rfl) (by rfl) T.t_len (by decide +kernel) (da_cons (d_var (pv 4)) da_nil))) (db_one (ds_ret (d_tup (da_cons d_str (da_cons (d_var (pv 1)) (da_cons (d_var (pv 2)) (da_cons (d_tup da_nil aNil_len) da_nil)))) (aCons_len (aCons_len (aCons_len (aCons_len aNil_len))))))) db_nil)
    (db_cons (ds_set (i := 9) sc_l_wrong_rule.nd rfl (Or.inl rfl) (d_of do_dict0))
    (db_cons (ds_for (di_enum (d_var (pv 7)) (by rfl) T.t_enumerate) (dg_tup (dgs_cons (dg_name (pg_name (i := 10) sc_l_wrong_rule.nd rfl (Or.inl rfl))) (dgs_cons (dg_name (pg_name (i := 11) sc_l_wrong_rule.nd rfl (Or.inl rfl))) dgs_nil))) (db_cons (ds_set (i := 12) sc_l_wrong_rule.nd rfl (Or.inl rfl) (d_call G_wrong_left (hr.mono (by omega)) (by rfl) C_wrong_left.m C_wrong_left.F.kp C_wrong_left.b (da_cons (d_var (pv 0)) (da_cons (d_var (pv 9)) (da_cons (d_var (pv 11)) (da_cons (d_ixD hr.units (d_var (pv 4)) (d_var (pv 10))) (da_cons (d_tup (da_cons (d_var (pv 10)) da_nil) (aCons_len aNil_len)) da_nil)))))))
    (db_one (ds_if (dt_isnot (d_var (pv 12)) d_non) (db_one (ds_ret (d_tup (da_cons d_str (da_cons (d_var (pv 1)) (da_cons (d_var (pv 2)) (da_cons (d_var (pv 12)) da_nil)))) (aCons_len (aCons_len (aCons_len (aCons_len aNil_len))))))) db_nil))))
    (db_cons (ds_set (i := 12) sc_l_wrong_rule.nd rfl (Or.inl rfl) (d_call G_wrong (hr.mono (by omega)) (by rfl) C_wrong.m C_wrong.F.kp C_wrong.b (da_cons (d_var (pv 0)) (da_cons (d_var (pv 9)) (da_cons (d_var (pv 8)) (da_cons (d_var (pv 5)) (da_cons (d_tup da_nil aNil_len) da_nil)))))))
    (db_cons (ds_if (dt_isnot (d_var (pv 12)) d_non) (db_one (ds_ret (d_tup (da_cons d_str (da_cons (d_var (pv 1)) (da_cons (d_var (pv 2)) (da_cons (d_var (pv 12)) da_nil)))) (aCons_len (aCons_len (aCons_len (aCons_len aNil_len))))))) db_nil)
    (db_one (ds_ret (d_ixD hr.units (d_lst (da_cons d_non (da_cons (d_tup (da_cons d_str (da_cons (d_var (pv 1)) (da_cons (d_var (pv 2)) (da_cons (d_tup da_nil aNil_len) da_nil)))) (aCons_len (aCons_len (aCons_len (aCons_len aNil_len))))) da_nil)) (aCons_len (aCons_len aNil_len))) (d_callT call_int1 c_int (by rfl) T.t_int (by decide +kernel) (da_cons (d_gt (d_callB call_len (c_len rfl) (by rfl) T.t_len (by decide +kernel) (da_cons (d_lcK0 (own := [("_law_name", 13)]) sc_l_wrong_rule.nd (pv 9) (blkOk_by (own := [("_law_name", 13)]) (N := N_l_wrong_rule) (sc := defScope s_l_wrong_rule) (by decide +kernel))) da_nil)) d_int) da_nil))))))))))))
abbrev s_wrong_kinds : Stmt := top 101
abbrev N_wrong_kinds : List Str := ["_law_kinds", "_law_names", "_law_i", "_law_name", "_law_passed", "_law_row", "_law_j", "_law_maker_here", "_law_parts", "_law_wrong_here", "_law_known", "_law_turn", "_law_makers", "_law_part"]
abbrev P_wrong_kinds : List Str := ["_law_kinds"]
theorem sc_wrong_kinds : FnScope N_wrong_kinds P_wrong_kinds (defScope s_wrong_kinds) := ⟨rfl, rfl, rfl, by decide +kernel, rfl, by decide +kernel, by decide +kernel⟩
def l1_wrong_kinds : Bd :=
  (sIf (trB (e2 fNotInD (eVar 3) (eVar 10))) (sRet (eTup (aCons (eC (.str ("empty" : Str))) (aCons (eVar 2) aNil)))) bNil)
def l2_wrong_kinds : Bd :=
  (sIf (trB (e2 fNe (eLc (iSeq (eVar 12)) (gT (gsC (gN 7) (gsC (gN 8) gsN))) (trB (eF (f1 fAll) (aCons (eLc (iSeq (eVar 8)) (gN 13) tY (e2 fInD (eVar 13) (eVar 10)) [13]) aNil))) (eC (.int 1)) [7, 8]) (eLst aNil))) (sApp 10 (eVar 3)) bNil)
def l3_wrong_kinds : Bd :=
  (sFor (iSeq (eVar 0)) (gT (gsC (gN 3) (gsC (gN 12) gsN))) (l2_wrong_kinds))
def l4_wrong_kinds : Bd :=
  (bSeq (sSet 9 (eLc (iSeq (eVar 8)) (gN 13) (tAn (trB (e2 fNe (eVar 13) (eC (.str ("truth" : Str))))) (trB (e2 fNotInD (eVar 13) (eVar 1)))) (eVar 13) [13]))
  (bSeq (sIf (tOr' (trB (e2 fInD (eVar 7) (eVar 4))) (trB (e2 fNe (eVar 9) (eLst aNil)))) (sRet (eTup (aCons (eC (.str ("maker" : Str))) (aCons (eVar 2) (aCons (eVar 6) aNil))))) bNil)
  (sApp 4 (eVar 7))))
def l5_wrong_kinds : Bd :=
  (sFor (i1 fEnum (e2 fDG (eVar 5) (eC (.int 1)))) (gT (gsC (gN 6) (gsC (gT (gsC (gN 7) (gsC (gN 8) gsN))) gsN))) (l4_wrong_kinds))
def l6_wrong_kinds : Bd :=
  (sIf (trB (e2 fInD (eVar 3) (eSl (eVar 1) (fun _ => Mp none) (pSome (eVar 2))))) (sRet (eTup (aCons (eC (.str ("kind" : Str))) (aCons (eVar 2) aNil)))) bNil)
def b_wrong_kinds : Bd :=
  (bSeq (sSet 1 (eLc (iSeq (eVar 0)) (gN 5) tY (e2 fDG (eVar 5) (eC (.int 0))) [5]))
  (bSeq (sFor (i1 fEnum (eVar 1)) (gT (gsC (gN 2) (gsC (gN 3) gsN))) (l6_wrong_kinds))
  (bSeq (sSet 4 (eLst (aCons (eC (.str ("yes" : Str))) (aCons (eC (.str ("no" : Str))) aNil))))
  (bSeq (sFor (i1 fEnum (eVar 0)) (gT (gsC (gN 2) (gsC (gN 5) gsN))) (l5_wrong_kinds))
  (bSeq (sSet 10 (eLst (aCons (eC (.str ("truth" : Str))) aNil)))
  (bSeq (sFor (iSeq (eVar 0)) (gN 11) (l3_wrong_kinds))
  (bSeq (sFor (i1 fEnum (eVar 1)) (gT (gsC (gN 2) (gsC (gN 3) gsN))) (l1_wrong_kinds))
  (sRet (eC .non)))))))))
theorem ok_wrong_kinds {k : Nat} {a_wrong_kinds : Addr} {d_wrong_kinds : FuncData} (T : Bt mg) (C_wrong_kinds : Cal K mg "_law_wrong_kinds" s_wrong_kinds P_wrong_kinds a_wrong_kinds d_wrong_kinds) :
    FnOk P w K mg base CX0 (k + 1) a_wrong_kinds d_wrong_kinds P_wrong_kinds (spM ⟨K, dk⟩ W (fnA 1 14 (b_wrong_kinds))) :=
  fn_ok [4, 10] C_wrong_kinds.F sc_wrong_kinds rfl fun cdv A outer s H E R hr =>
    (db_cons (ds_set (i := 1) sc_wrong_kinds.nd rfl (Or.inr rfl) (d_lc (own := [("_law_row", 5)]) sc_wrong_kinds.nd (di_seq (d_var (pv 0))) (blkOk_by (own := [("_law_row", 5)]) (N := N_wrong_kinds) (sc := defScope s_wrong_kinds) (by decide +kernel)) (fun _ _ _ _ _ => (dg_name (pg_name (i := 5) sc_wrong_kinds.nd rfl (Or.inl rfl)))) (fun _ _ _ _ _ => dts_nil) (fun _ _ _ _ _ => (d_ixD hr.units (d_var (pv 5)) d_int))))
    (db_cons (ds_for (di_enum (d_var (pv 1)) (by rfl) T.t_enumerate) (dg_tup (dgs_cons (dg_name (pg_name (i := 2) sc_wrong_kinds.nd rfl (Or.inl rfl))) (dgs_cons (dg_name (pg_name (i := 3) sc_wrong_kinds.nd rfl (Or.inl rfl))) dgs_nil))) (db_one (ds_if (dt_inD hr.units (d_var (pv 3)) (d_sl (d_var (pv 1)) dp_none (dp_some (d_var (pv 2))))) (db_one (ds_ret (d_tup (da_cons d_str (da_cons (d_var (pv 2)) da_nil)) (aCons_len (aCons_len aNil_len))))) db_nil)))
    (db_cons (ds_setO (i := 4) sc_wrong_kinds.nd rfl (Or.inl rfl) (do_lst (da_cons d_str (da_cons d_str da_nil)) (aCons_len (aCons_len aNil_len))))
    (db_cons (ds_for (di_enum (d_var (pv 0)) (by rfl) T.t_enumerate) (dg_tup (dgs_cons (dg_name (pg_name (i := 2) sc_wrong_kinds.nd rfl (Or.inl rfl))) (dgs_cons (dg_name (pg_name (i := 5) sc_wrong_kinds.nd rfl (Or.inl rfl))) dgs_nil))) (db_one (ds_for (di_enum (d_ixD hr.units (d_var (pv 5)) d_int) (by rfl) T.t_enumerate) (dg_tup (dgs_cons (dg_name (pg_name (i := 6) sc_wrong_kinds.nd rfl (Or.inl rfl))) (dgs_cons (dg_tup (dgs_cons (dg_name (pg_name (i := 7) sc_wrong_kinds.nd rfl (Or.inl rfl))) (dgs_cons (dg_name (pg_name (i := 8) sc_wrong_kinds.nd rfl (Or.inl rfl))) dgs_nil))) dgs_nil))) (db_cons (ds_setLc (i := 9) (own := [("_law_part", 13)]) sc_wrong_kinds.nd rfl rfl (sw_true rfl rfl rfl (by decide +kernel)) (di_seq (d_var (pv 8))) (blkOk_by (own := [("_law_part", 13)]) (N := N_wrong_kinds) (sc := defScope s_wrong_kinds) (by decide +kernel)) (fun _ _ _ _ _ => (dg_name (pg_name (i := 13) sc_wrong_kinds.nd rfl (Or.inl rfl)))) (fun _ _ _ _ _ => (dts_one (dw_pt (dw_and (dt_ne hr.units (d_var (pv 13)) d_str) (dw_and1 (dt_notinD hr.units (d_var (pv 13)) (d_var (pv 1)))))))) (fun _ _ _ _ _ => (d_var (pv 13))))
    (db_cons (ds_if (dt_open (dw_pt (dw_or (dt_inD hr.units (d_var (pv 7)) (d_var (pv 4))) (dw_or1 (dt_ne hr.units (d_var (pv 9)) (d_lst da_nil aNil_len)))))) (db_one (ds_ret (d_tup (da_cons d_str (da_cons (d_var (pv 2)) (da_cons (d_var (pv 6)) da_nil))) (aCons_len (aCons_len (aCons_len aNil_len)))))) db_nil)
    (db_one (ds_app (pv 4) (d_var (pv 7)))))))))
    (db_cons (ds_setO (i := 10) sc_wrong_kinds.nd rfl (Or.inr rfl) (do_lst (da_cons d_str da_nil) (aCons_len aNil_len)))
    (db_cons (ds_for (di_seq (d_var (pv 0))) (dg_name (pg_name (i := 11) sc_wrong_kinds.nd rfl (Or.inl rfl))) (db_one (ds_for (di_seq (d_var (pv 0))) (dg_tup (dgs_cons (dg_name (pg_name (i := 3) sc_wrong_kinds.nd rfl (Or.inl rfl))) (dgs_cons (dg_name (pg_name (i := 12) sc_wrong_kinds.nd rfl (Or.inl rfl))) dgs_nil))) (db_one (ds_if (dt_open (dt_ne hr.units (d_lc (own := [("_law_maker_here", 7), ("_law_parts", 8)]) sc_wrong_kinds.nd (di_seq (d_var (pv 12))) (blkOk_by (own := [("_law_maker_here", 7), ("_law_parts", 8)]) (N := N_wrong_kinds) (sc := defScope s_wrong_kinds) (by decide +kernel)) (fun _ _ _ _ _ => (dg_tup (dgs_cons (dg_name (pg_name (i := 7) sc_wrong_kinds.nd rfl (Or.inl rfl))) (dgs_cons (dg_name (pg_name (i := 8) sc_wrong_kinds.nd rfl (Or.inl rfl))) dgs_nil)))) (fun _ _ _ _ _ => (dts_one (dt_tr (d_callB (cr_all rfl) c_all (by rfl) T.t_all (by decide +kernel) (da_cons (d_lc (own := [("_law_part", 13)]) sc_wrong_kinds.nd (di_seq (d_var (pv 8))) (by exact blkOk_by (own := [("_law_part", 13)]) (by kernel_rfl)) (fun _ _ _ _ _ => (dg_name (pg_name (i := 13) sc_wrong_kinds.nd rfl (Or.inl rfl)))) (fun _ _ _ _ _ => dts_nil) (fun _ _ _ _ _ => (d_inD hr.units (d_var (pv 13)) (d_var (pv 10))))) da_nil))))) (fun _ _ _ _ _ => d_int)) (d_lst da_nil aNil_len))) (db_one (ds_app (pv 10) (d_var (pv 3)))) db_nil)))))
    (db_cons (ds_for (di_enum (d_var (pv 1)) (by rfl) T.t_enumerate) (dg_tup (dgs_cons (dg_name (pg_name (i := 2) sc_wrong_kinds.nd rfl (Or.inl rfl))) (dgs_cons (dg_name (pg_name (i := 3) sc_wrong_kinds.nd rfl (Or.inl rfl))) dgs_nil))) (db_one (ds_if (dt_open (dt_notinD hr.units (d_var (pv 3)) (d_var (pv 10)))) (db_one (ds_ret (d_tup (da_cons d_str (da_cons (d_var (pv 2)) da_nil)) (aCons_len (aCons_len aNil_len))))) db_nil)))
    (db_one (ds_ret d_non)))))))))
abbrev s_first : Stmt := top 102
abbrev N_first : List Str := ["_law_kinds", "_law_functions", "_law_found", "_law_names", "_law_f", "_law_word", "_law_own", "_law_kind", "_law_rules", "_law_r", "_law_row", "_law_one"]
abbrev P_first : List Str := ["_law_kinds", "_law_functions"]
theorem sc_first : FnScope N_first P_first (defScope s_first) := ⟨rfl, rfl, rfl, by decide +kernel, rfl, by decide +kernel, by decide +kernel⟩
def l1_first (c_l_wrong_rule : List D → M D) : Bd :=
  (bSeq (sSet 2 (eCall c_l_wrong_rule (aCons (eTup (aCons (eVar 0) (aCons (eVar 1) aNil))) (aCons (eVar 4) (aCons (eVar 9) aNil)))))
  (sIf (trB (e2 fIsNot (eVar 2) (eC .non))) (sRet (eVar 2)) bNil))
def l2_first (c_l_wrong_rule : List D → M D) : Bd :=
  (sFor (i1 fR1 (eF (f1 fLen) (aCons (e2 fDG (e2 fDG (eVar 1) (eVar 4)) (eC (.int 3))) aNil))) (gN 9) (l1_first c_l_wrong_rule))
def l3_first (c_maker : List D → M D) : Bd :=
  (bSeq (sIf (tOr' (trB (e2 fIsNot (eCall c_maker (aCons (eVar 0) (aCons (eVar 5) aNil))) (eC .non))) (trB (e2 fInD (eVar 5) (eLc (iSeq (eSl (eVar 1) (fun _ => Mp none) (pSome (eVar 4)))) (gN 10) tY (e2 fDG (eVar 10) (eC (.int 0))) [10])))) (sRet (eTup (aCons (eC (.str ("def" : Str))) (aCons (eVar 4) aNil)))) bNil)
  (sIf (tOr' (trB (e2 fNotInD (eVar 7) (eVar 3))) (trB (e2 fNe (eLc (iSeq (eVar 6)) (gN 11) (trB (e2 fNotInD (eVar 11) (eVar 3))) (eVar 11) [11]) (eLst aNil)))) (sRet (eTup (aCons (eC (.str ("def" : Str))) (aCons (eVar 4) aNil)))) bNil))
def b_first (c_l_wrong_rule : List D → M D) (c_maker : List D → M D) (c_wrong_kinds : List D → M D) (c_formed : List D → M D) : Bd :=
  (bSeq (sIf (tNt (trB (eCall c_formed (aCons (eVar 0) (aCons (eVar 1) aNil))))) (sRet (eTup aNil)) bNil)
  (bSeq (sSet 2 (eCall c_wrong_kinds (aCons (eVar 0) aNil)))
  (bSeq (sIf (trB (e2 fIsNot (eVar 2) (eC .non))) (sRet (eVar 2)) bNil)
  (bSeq (sSet 3 (e2 fAdd (eLc (iSeq (eVar 0)) (gN 10) tY (e2 fDG (eVar 10) (eC (.int 0))) [10]) (eLst (aCons (eC (.str ("truth" : Str))) aNil))))
  (bSeq (sFor (i1 fEnum (eVar 1)) (gT (gsC (gN 4) (gsC (gT (gsC (gN 5) (gsC (gN 6) (gsC (gN 7) (gsC (gN 8) gsN))))) gsN))) (l3_first c_maker))
  (bSeq (sFor (i1 fR1 (eF (f1 fLen) (aCons (eVar 1) aNil))) (gN 4) (l2_first c_l_wrong_rule))
  (sRet (eC .non))))))))
theorem ok_first {k : Nat} {a_first : Addr} {d_first : FuncData} {a_l_wrong_rule : Addr} {d_l_wrong_rule : FuncData} {c_l_wrong_rule : List D → M D} {a_maker : Addr} {d_maker : FuncData} {c_maker : List D → M D} {a_wrong_kinds : Addr} {d_wrong_kinds : FuncData} {c_wrong_kinds : List D → M D} {a_formed : Addr} {d_formed : FuncData} {c_formed : List D → M D} (T : Bt mg) (C_first : Cal K mg "_law_first" s_first P_first a_first d_first) (C_l_wrong_rule : Cal K mg "_law_wrong_rule" s_l_wrong_rule P_l_wrong_rule a_l_wrong_rule d_l_wrong_rule) (G_l_wrong_rule : FnOk P w K mg base CX0 k a_l_wrong_rule d_l_wrong_rule P_l_wrong_rule (spM ⟨K, dk⟩ W c_l_wrong_rule)) (C_maker : Cal K mg "_law_maker" s_maker P_maker a_maker d_maker) (G_maker : FnOk P w K mg base CX0 k a_maker d_maker P_maker (spM ⟨K, dk⟩ W c_maker)) (C_wrong_kinds : Cal K mg "_law_wrong_kinds" s_wrong_kinds P_wrong_kinds a_wrong_kinds d_wrong_kinds) (G_wrong_kinds : FnOk P w K mg base CX0 k a_wrong_kinds d_wrong_kinds P_wrong_kinds (spM ⟨K, dk⟩ W c_wrong_kinds)) (C_formed : Cal K mg "_law_formed" s_formed P_formed a_formed d_formed) (G_formed : FnOk P w K mg base CX0 k a_formed d_formed P_formed (spM ⟨K, dk⟩ W c_formed)) :
    FnOk P w K mg base CX0 (k + 1) a_first d_first P_first (spM ⟨K, dk⟩ W (fnA 2 12 (b_first c_l_wrong_rule c_maker c_wrong_kinds c_formed))) :=
  fn_ok [] C_first.F sc_first rfl fun cdv A outer s H E R hr =>
    (db_cons (ds_if (dt_not (dt_tr (d_call G_formed (hr.mono (by omega)) (by rfl) C_formed.m C_formed.F.kp C_formed.b (da_cons (d_var (pv 0)) (da_cons (d_var (pv 1)) da_nil))))) (db_one (ds_ret (d_tup da_nil aNil_len))) db_nil)
    (db_cons (ds_set (i := 2) sc_first.nd rfl (Or.inl rfl) (d_call G_wrong_kinds (hr.mono (by omega)) (by rfl) C_wrong_kinds.m C_wrong_kinds.F.kp C_wrong_kinds.b (da_cons (d_var (pv 0)) da_nil)))
    (db_cons (ds_if (dt_isnot (d_var (pv 2)) d_non) (db_one (ds_ret (d_var (pv 2)))) db_nil)
    (db_cons (ds_set (i := 3) sc_first.nd rfl (Or.inr rfl) (d_add (d_lc (own := [("_law_row", 10)]) sc_first.nd (di_seq (d_var (pv 0))) (blkOk_by (own := [("_law_row", 10)]) (N := N_first) (sc := defScope s_first) (by decide +kernel)) (fun _ _ _ _ _ => (dg_name (pg_name (i := 10) sc_first.nd rfl (Or.inl rfl)))) (fun _ _ _ _ _ => dts_nil) (fun _ _ _ _ _ => (d_ixD hr.units (d_var (pv 10)) d_int))) (d_lst (da_cons d_str da_nil) (aCons_len aNil_len))))
    (db_cons (ds_for (di_enum (d_var (pv 1)) (by rfl) T.t_enumerate) (dg_tup (dgs_cons (dg_name (pg_name (i := 4) sc_first.nd rfl (Or.inl rfl))) (dgs_cons (dg_tup (dgs_cons (dg_name (pg_name (i := 5) sc_first.nd rfl (Or.inl rfl))) (dgs_cons (dg_name (pg_name (i := 6) sc_first.nd rfl (Or.inl rfl))) (dgs_cons (dg_name (pg_name (i := 7) sc_first.nd rfl (Or.inl rfl))) (dgs_cons (dg_name (pg_name (i := 8) sc_first.nd rfl (Or.inl rfl))) dgs_nil))))) dgs_nil))) (db_cons (ds_if (dw_pt (dw_or (dt_isnot (d_call G_maker (hr.mono (by omega)) (by rfl) C_maker.m C_maker.F.kp C_maker.b (da_cons (d_var (pv 0)) (da_cons (d_var (pv 5)) da_nil))) d_non) (dw_or1 (dt_inD hr.units (d_var (pv 5)) (d_lc (own := [("_law_row", 10)]) sc_first.nd (di_seq (d_sl (d_var (pv 1)) dp_none (dp_some (d_var (pv 4))))) (blkOk_by (own := [("_law_row", 10)]) (N := N_first) (sc := defScope s_first) (by decide +kernel)) (fun _ _ _ _ _ => (dg_name (pg_name (i := 10) sc_first.nd rfl (Or.inl rfl)))) (fun _ _ _ _ _ => dts_nil) (fun _ _ _ _ _ => (d_ixD hr.units (d_var (pv 10)) d_int))))))) (db_one (ds_ret (d_tup (da_cons d_str (da_cons (d_var (pv 4)) da_nil)) (aCons_len (aCons_len aNil_len))))) db_nil)
    (db_one (ds_if (dw_pt (dw_or (dt_notinD hr.units (d_var (pv 7)) (d_var (pv 3))) (dw_or1 (dt_ne hr.units (d_lc (own := [("_law_one", 11)]) sc_first.nd (di_seq (d_var (pv 6))) (blkOk_by (own := [("_law_one", 11)]) (N := N_first) (sc := defScope s_first) (by decide +kernel)) (fun _ _ _ _ _ => (dg_name (pg_name (i := 11) sc_first.nd rfl (Or.inl rfl)))) (fun _ _ _ _ _ => (dts_one (dt_notinD hr.units (d_var (pv 11)) (d_var (pv 3))))) (fun _ _ _ _ _ => (d_var (pv 11)))) (d_lst da_nil aNil_len))))) (db_one (ds_ret (d_tup (da_cons d_str (da_cons (d_var (pv 4)) da_nil)) (aCons_len (aCons_len aNil_len))))) db_nil))))
    (db_cons (ds_for (di_r1 (d_callB call_len (c_len rfl) (by rfl) T.t_len (by decide +kernel) (da_cons (d_var (pv 1)) da_nil)) (by rfl) T.t_range) (dg_name (pg_name (i := 4) sc_first.nd rfl (Or.inl rfl))) (db_one (ds_for (di_r1 (d_callB call_len (c_len rfl) (by rfl) T.t_len (by decide +kernel) (da_cons (d_ixD hr.units (d_ixD hr.units (d_var (pv 1)) (d_var (pv 4))) d_int) da_nil)) (by rfl) T.t_range) (dg_name (pg_name (i := 9) sc_first.nd rfl (Or.inl rfl))) (db_cons (ds_set (i := 2) sc_first.nd rfl (Or.inl rfl) (d_call G_l_wrong_rule (hr.mono (by omega)) (by rfl) C_l_wrong_rule.m C_l_wrong_rule.F.kp C_l_wrong_rule.b (da_cons (d_tup (da_cons (d_var (pv 0)) (da_cons (d_var (pv 1)) da_nil)) (aCons_len (aCons_len aNil_len))) (da_cons (d_var (pv 4)) (da_cons (d_var (pv 9)) da_nil)))))
    (db_one (ds_if (dt_isnot (d_var (pv 2)) d_non) (db_one (ds_ret (d_var (pv 2)))) db_nil))))))
    (db_one (ds_ret d_non))))))))
abbrev s_drawn_kinds : Stmt := top 105
abbrev N_drawn_kinds : List Str := ["_law_deck_here", "_law_number", "_law_names", "_law_found", "_law_many", "_law_name", "_law_makers", "_law_draw", "_law_k", "_law_more", "_law_parts", "_law_part", "_law_other", "_law_some", "_law_word"]
abbrev P_drawn_kinds : List Str := ["_law_deck_here"]
theorem sc_drawn_kinds : FnScope N_drawn_kinds P_drawn_kinds (defScope s_drawn_kinds) := ⟨rfl, rfl, rfl, by decide +kernel, rfl, by decide +kernel, by decide +kernel⟩
def l1_drawn_kinds (c_next : List D → M D) : Bd :=
  (bSeq (sSet 12 (eCall c_next (aCons (eVar 0) aNil)))
  (bSeq (sSet 13 (e2 fAdd (e2 fAdd (eVar 2) (eVar 2)) (eLst (aCons (eC (.str ("truth" : Str))) (aCons (eC (.str ("none" : Str))) aNil)))))
  (sApp 10 (e2 fDG (eVar 13) (e2 fMod (eVar 12) (e2 fSub (eF (f1 fLen) (aCons (eVar 13) aNil)) (eF (f1 fInt) (aCons (e2 fGt (e2 fMod (e2 fDiv (eVar 12) (eC (.int 16))) (eC (.int 12))) (eC (.int 0))) aNil))))))))
def l2_drawn_kinds (c_next : List D → M D) : Bd :=
  (bSeq (sSet 9 (eCall c_next (aCons (eVar 0) aNil)))
  (bSeq (sSet 10 (eLst aNil))
  (bSeq (sFor (i1 fR1 (e2 fDG (eLst (aCons (eC (.int 0)) (aCons (eC (.int 1)) (aCons (eC (.int 2)) (aCons (eC (.int 3)) aNil))))) (e2 fMul (e2 fMod (eVar 9) (eC (.int 4))) (eF (f1 fInt) (aCons (vOr (e2 fGt (eVar 8) (eC (.int 0))) (e2 fEq (e2 fMod (e2 fDiv (eVar 7) (eC (.int 4))) (eC (.int 2))) (eC (.int 0)))) aNil))))) (gN 11) (l1_drawn_kinds c_next))
  (bSeq (sSet 14 (e2 fAdd (eC (.str ("m" : Str))) (e2 fDG (eC (.str ("abcdefghijklmnopq" : Str))) (e2 fMod (eVar 4) (eC (.int 17))))))
  (bSeq (sApp 6 (eFl (eTup (aCons (e2 fDG (eLst (aCons (eVar 14) (aCons (eC (.str ("ma" : Str))) aNil))) (eF (f1 fInt) (aCons (e2 fEq (e2 fMod (e2 fDiv (eVar 9) (eC (.int 4))) (eC (.int 24))) (eC (.int 0))) aNil))) (aCons (eF (f1 fTupD) (aCons (eVar 10) aNil)) aNil)))))
  (sSet 4 (e2 fAdd (eVar 4) (eC (.int 1)))))))))
def l3_drawn_kinds (c_next : List D → M D) : Bd :=
  (bSeq (sSet 6 (eLst aNil))
  (bSeq (sSet 7 (eCall c_next (aCons (eVar 0) aNil)))
  (bSeq (sFor (i1 fR1 (e2 fAdd (eC (.int 1)) (e2 fMod (eVar 7) (eC (.int 4))))) (gN 8) (l2_drawn_kinds c_next))
  (sApp 3 (eFl (eTup (aCons (eVar 5) (aCons (eF (f1 fTupD) (aCons (eVar 6) aNil)) aNil))))))))
def b_drawn_kinds (c_next : List D → M D) : Bd :=
  (bSeq (sSet 1 (eCall c_next (aCons (eVar 0) aNil)))
  (bSeq (sSet 2 (eSl (e2 fDG (eLst (aCons (eLst (aCons (eC (.str ("a" : Str))) (aCons (eC (.str ("bb" : Str))) (aCons (eC (.str ("kc" : Str))) (aCons (eC (.str ("kd" : Str))) aNil))))) (aCons (eLst (aCons (eC (.str ("num" : Str))) (aCons (eC (.str ("list" : Str))) (aCons (eC (.str ("tree" : Str))) (aCons (eC (.str ("num" : Str))) aNil))))) aNil))) (eF (f1 fInt) (aCons (e2 fEq (e2 fMod (eVar 1) (eC (.int 8))) (eC (.int 0))) aNil))) (fun _ => Mp none) (pSome (e2 fAdd (eC (.int 1)) (e2 fMod (e2 fDiv (eVar 1) (eC (.int 8))) (eC (.int 4)))))))
  (bSeq (sSet 3 (eLst aNil))
  (bSeq (sSet 4 (eC (.int 0)))
  (bSeq (sFor (iSeq (eVar 2)) (gN 5) (l3_drawn_kinds c_next))
  (sRet (eF (f1 fTupD) (aCons (eVar 3) aNil))))))))
theorem ok_drawn_kinds {k : Nat} {a_drawn_kinds : Addr} {d_drawn_kinds : FuncData} {a_next : Addr} {d_next : FuncData} {c_next : List D → M D} (T : Bt mg) (C_drawn_kinds : Cal K mg "_law_drawn_kinds" s_drawn_kinds P_drawn_kinds a_drawn_kinds d_drawn_kinds) (C_next : Cal K mg "_law_next" s_next P_next a_next d_next) (G_next : FnOk P w K mg base CX0 k a_next d_next P_next (spM ⟨K, dk⟩ W c_next)) :
    FnOk P w K mg base CX0 (k + 1) a_drawn_kinds d_drawn_kinds P_drawn_kinds (spM ⟨K, dk⟩ W (fnA 1 15 (b_drawn_kinds c_next))) :=
  fn_ok [3, 6, 10] C_drawn_kinds.F sc_drawn_kinds rfl fun cdv A outer s H E R hr =>
    (db_cons (ds_set (i := 1) sc_drawn_kinds.nd rfl (Or.inl rfl) (d_call G_next (hr.mono (by omega)) (by rfl) C_next.m C_next.F.kp C_next.b (da_cons (d_var (pv 0)) da_nil)))
    (db_cons (ds_set (i := 2) sc_drawn_kinds.nd rfl (Or.inl rfl) (d_sl (d_ixD hr.units (d_lst (da_cons (d_lst (da_cons d_str (da_cons d_str (da_cons d_str (da_cons d_str da_nil)))) (aCons_len (aCons_len (aCons_len (aCons_len aNil_len))))) (da_cons (d_lst (da_cons d_str (da_cons d_str (da_cons d_str (da_cons d_str da_nil)))) (aCons_len (aCons_len (aCons_len (aCons_len aNil_len))))) da_nil)) (aCons_len (aCons_len aNil_len))) (d_callT call_int1 c_int (by rfl) T.t_int (by decide +kernel) (da_cons (d_eq hr.units (d_mod (d_var (pv 1)) d_int) d_int) da_nil))) dp_none (dp_some (d_add d_int (d_mod (d_div (d_var (pv 1)) d_int) d_int)))))
    (db_cons (ds_setO (i := 3) sc_drawn_kinds.nd rfl (Or.inl rfl) (do_lst da_nil aNil_len))
    (db_cons (ds_set (i := 4) sc_drawn_kinds.nd rfl (Or.inl rfl) d_int)
    (db_cons (ds_for (di_seq (d_var (pv 2))) (dg_name (pg_name (i := 5) sc_drawn_kinds.nd rfl (Or.inl rfl))) (db_cons (ds_setO (i := 6) sc_drawn_kinds.nd rfl (Or.inl rfl) (do_lst da_nil aNil_len))
    (db_cons (ds_set (i := 7) sc_drawn_kinds.nd rfl (Or.inl rfl) (d_call G_next (hr.mono (by omega)) (by rfl) C_next.m C_next.F.kp C_next.b (da_cons (d_var (pv 0)) da_nil)))
    (db_cons (ds_for (di_r1 (d_add d_int (d_mod (d_var (pv 7)) d_int)) (by rfl) T.t_range) (dg_name (pg_name (i := 8) sc_drawn_kinds.nd rfl (Or.inl rfl))) (db_cons (ds_set (i := 9) sc_drawn_kinds.nd rfl (Or.inl rfl) (d_call G_next (hr.mono (by omega)) (by rfl) C_next.m C_next.F.kp C_next.b (da_cons (d_var (pv 0)) da_nil)))
    (db_cons (ds_setO (i := 10) sc_drawn_kinds.nd rfl (Or.inl rfl) (do_lst da_nil aNil_len))
    (db_cons (ds_for (di_r1 (d_ixD hr.units (d_lst (da_cons d_int (da_cons d_int (da_cons d_int (da_cons d_int da_nil)))) (aCons_len (aCons_len (aCons_len (aCons_len aNil_len))))) (d_mul (d_mod (d_var (pv 9)) d_int) (d_callT call_int1 c_int (by rfl) T.t_int (by decide +kernel) (da_cons (d_or (d_gt (d_var (pv 8)) d_int) (d_one (d_eq hr.units (d_mod (d_div (d_var (pv 7)) d_int) d_int) d_int))) da_nil)))) (by rfl) T.t_range) (dg_name (pg_name (i := 11) sc_drawn_kinds.nd rfl (Or.inl rfl))) (db_cons (ds_set (i := 12) sc_drawn_kinds.nd rfl (Or.inl rfl) (d_call G_next (hr.mono (by omega)) (by rfl) C_next.m C_next.F.kp C_next.b (da_cons (d_var (pv 0)) da_nil)))
    (db_cons (ds_set (i := 13) sc_drawn_kinds.nd rfl (Or.inl rfl) (d_add (d_add (d_var (pv 2)) (d_var (pv 2))) (d_lst (da_cons d_str (da_cons d_str da_nil)) (aCons_len (aCons_len aNil_len)))))
    (db_one (ds_app (pv 10) (d_ixD hr.units (d_var (pv 13)) (d_mod (d_var (pv 12)) (d_sub (d_callB call_len (c_len rfl) (by rfl) T.t_len (by decide +kernel) (da_cons (d_var (pv 13)) da_nil)) (d_callT call_int1 c_int (by rfl) T.t_int (by decide +kernel) (da_cons (d_gt (d_mod (d_div (d_var (pv 12)) d_int) d_int) d_int) da_nil))))))))))
    (db_cons (ds_set (i := 14) sc_drawn_kinds.nd rfl (Or.inl rfl) (d_add d_str (d_ixD hr.units d_str (d_mod (d_var (pv 4)) d_int))))
    (db_cons (ds_app (pv 6) (d_open (d_tup (da_cons (d_ixD hr.units (d_lst (da_cons (d_var (pv 14)) (da_cons d_str da_nil)) (aCons_len (aCons_len aNil_len))) (d_callT call_int1 c_int (by rfl) T.t_int (by decide +kernel) (da_cons (d_eq hr.units (d_mod (d_div (d_var (pv 9)) d_int) d_int) d_int) da_nil))) (da_cons (d_callT (call_tuple_of.or (call_tup_dR rfl)) (c_tupD rfl) (by rfl) T.t_tuple (by decide +kernel) (da_cons (d_var (pv 10)) da_nil)) da_nil)) (aCons_len (aCons_len aNil_len)))))
    (db_one (ds_set (i := 4) sc_drawn_kinds.nd rfl (Or.inl rfl) (d_add (d_var (pv 4)) d_int)))))))))
    (db_one (ds_app (pv 3) (d_open (d_tup (da_cons (d_var (pv 5)) (da_cons (d_callT (call_tuple_of.or (call_tup_dR rfl)) (c_tupD rfl) (by rfl) T.t_tuple (by decide +kernel) (da_cons (d_var (pv 6)) da_nil)) da_nil)) (aCons_len (aCons_len aNil_len))))))))))
    (db_one (ds_ret (d_callT (call_tuple_of.or (call_tup_dR rfl)) (c_tupD rfl) (by rfl) T.t_tuple (by decide +kernel) (da_cons (d_var (pv 3)) da_nil)))))))))
abbrev s_function : Stmt := top 106
abbrev N_function : List Str := ["_law_kinds", "_law_name", "_law_makers", "_law_maker_here", "_law_parts"]
abbrev P_function : List Str := ["_law_kinds"]
theorem sc_function : FnScope N_function P_function (defScope s_function) := ⟨rfl, rfl, rfl, by decide +kernel, rfl, by decide +kernel, by decide +kernel⟩
def l1_function : Bd :=
  (sIf (trB (e2 fEq (eVar 4) (eTup aNil))) (sRet (eTup (aCons (eTup (aCons (eC (.str ("first" : Str))) (aCons (eTup aNil) (aCons (eVar 1) (aCons (eTup (aCons (eTup (aCons (eTup aNil) (aCons (eTup (aCons (eC (.str ("made" : Str))) (aCons (eVar 3) (aCons (eTup aNil) aNil)))) aNil))) aNil)) aNil))))) aNil))) bNil)
def l2_function : Bd :=
  (sFor (iSeq (eVar 2)) (gT (gsC (gN 3) (gsC (gN 4) gsN))) (l1_function))
def b_function : Bd :=
  (bSeq (sFor (iSeq (eVar 0)) (gT (gsC (gN 1) (gsC (gN 2) gsN))) (l2_function))
  (sRet (eTup aNil)))
theorem ok_function {k : Nat} {a_function : Addr} {d_function : FuncData} (T : Bt mg) (C_function : Cal K mg "_law_function" s_function P_function a_function d_function) :
    FnOk P w K mg base CX0 (k + 1) a_function d_function P_function (spM ⟨K, dk⟩ W (fnA 1 5 (b_function))) :=
  fn_ok [] C_function.F sc_function rfl fun cdv A outer s H E R hr =>
    (db_cons (ds_for (di_seq (d_var (pv 0))) (dg_tup (dgs_cons (dg_name (pg_name (i := 1) sc_function.nd rfl (Or.inl rfl))) (dgs_cons (dg_name (pg_name (i := 2) sc_function.nd rfl (Or.inl rfl))) dgs_nil))) (db_one (ds_for (di_seq (d_var (pv 2))) (dg_tup (dgs_cons (dg_name (pg_name (i := 3) sc_function.nd rfl (Or.inl rfl))) (dgs_cons (dg_name (pg_name (i := 4) sc_function.nd rfl (Or.inl rfl))) dgs_nil))) (db_one (ds_if (dt_eq hr.units (d_var (pv 4)) (d_tup da_nil aNil_len)) (db_one (ds_ret (d_tup (da_cons (d_tup (da_cons d_str (da_cons (d_tup da_nil aNil_len) (da_cons (d_var (pv 1)) (da_cons (d_tup (da_cons (d_tup (da_cons (d_tup da_nil aNil_len) (da_cons (d_tup (da_cons d_str (da_cons (d_var (pv 3)) (da_cons (d_tup da_nil aNil_len) da_nil))) (aCons_len (aCons_len (aCons_len aNil_len)))) da_nil)) (aCons_len (aCons_len aNil_len))) da_nil) (aCons_len aNil_len)) da_nil)))) (aCons_len (aCons_len (aCons_len (aCons_len aNil_len))))) da_nil) (aCons_len aNil_len)))) db_nil)))))
    (db_one (ds_ret (d_tup da_nil aNil_len))))
abbrev s_law : Stmt := top 107
abbrev N_law : List Str := ["_law_script", "_law_deck_here", "_law_turn", "_law_kinds", "_law_functions", "_law_place", "_law_due"]
abbrev P_law : List Str := ["_law_script"]
theorem sc_law : FnScope N_law P_law (defScope s_law) := ⟨rfl, rfl, rfl, by decide +kernel, rfl, by decide +kernel, by decide +kernel⟩
def l1_law (c_drawn_kinds : List D → M D) (c_next : List D → M D) (c_function : List D → M D) (c_first : List D → M D) (c_same : List D → M D) (c_made : List D → M D) : Bd :=
  (bSeq (sSet 3 (eCall c_drawn_kinds (aCons (eVar 1) aNil)))
  (bSeq (sSet 4 (eTup aNil))
  (bSeq (sIf (trB (e2 fEq (e2 fMod (eCall c_next (aCons (eVar 1) aNil)) (eC (.int 2))) (eC (.int 0)))) (sSet 4 (eCall c_function (aCons (eVar 3) aNil))) bNil)
  (bSeq (sSet 5 (eCall c_first (aCons (eVar 3) (aCons (eVar 4) aNil))))
  (bSeq (sSet 6 (eTup (aCons (eC (.str ("made" : Str))) aNil)))
  (bSeq (sIf (trB (e2 fIsNot (eVar 5) (eC .non))) (sSet 6 (eTup (aCons (eC (.str ("BadProgram" : Str))) (aCons (eVar 5) aNil)))) bNil)
  (sIf (tNt (trB (eCall c_same (aCons (eCall c_made (aCons (eVar 3) (aCons (eVar 4) aNil))) (aCons (eVar 6) aNil))))) (sRet (eC (.bl false))) bNil)))))))
def b_law (c_same : List D → M D) (c_made : List D → M D) (c_first : List D → M D) (c_next : List D → M D) (c_function : List D → M D) (c_drawn_kinds : List D → M D) : Bd :=
  (bSeq (sFor (i1 fR1 (eC (.int 12))) (gN 2) (l1_law c_drawn_kinds c_next c_function c_first c_same c_made))
  (sRet (eC (.bl true))))
abbrev ow_law : List Nat := []
theorem db_law {k : Nat} {a_law : Addr} {d_law : FuncData} {a_same : Addr} {d_same : FuncData} {c_same : List D → M D} {a_made : Addr} {d_made : FuncData} {c_made : List D → M D} {a_first : Addr} {d_first : FuncData} {c_first : List D → M D} {a_next : Addr} {d_next : FuncData} {c_next : List D → M D} {a_function : Addr} {d_function : FuncData} {c_function : List D → M D} {a_drawn_kinds : Addr} {d_drawn_kinds : FuncData} {c_drawn_kinds : List D → M D} (T : Bt mg) (C_same : Cal K mg "_law_same" s_same P_same a_same d_same) (G_same : FnOk P w K mg base CX0 k a_same d_same P_same (spM ⟨K, dk⟩ W c_same)) (C_made : Cal K mg "_law_made" s_made P_made a_made d_made) (G_made : FnOk P w K mg base CX0 k a_made d_made P_made (spM ⟨K, dk⟩ W c_made)) (C_first : Cal K mg "_law_first" s_first P_first a_first d_first) (G_first : FnOk P w K mg base CX0 k a_first d_first P_first (spM ⟨K, dk⟩ W c_first)) (C_next : Cal K mg "_law_next" s_next P_next a_next d_next) (G_next : FnOk P w K mg base CX0 k a_next d_next P_next (spM ⟨K, dk⟩ W c_next)) (C_function : Cal K mg "_law_function" s_function P_function a_function d_function) (G_function : FnOk P w K mg base CX0 k a_function d_function P_function (spM ⟨K, dk⟩ W c_function)) (C_drawn_kinds : Cal K mg "_law_drawn_kinds" s_drawn_kinds P_drawn_kinds a_drawn_kinds d_drawn_kinds) (G_drawn_kinds : FnOk P w K mg base CX0 k a_drawn_kinds d_drawn_kinds P_drawn_kinds (spM ⟨K, dk⟩ W c_drawn_kinds)) (cdv : Value) (A : Around) (outer : List Env) (s : Shared) (H : Hp) (E : XK) (H0 R0 : Hp) (hr : Room k (A.deeper (PyProof.Rows.envOfC "law" (defScope s_law) s.heap.objs.size a_law cdv))) :
    DB (cxOf CX0 P w K mg base N_law "law" (defScope s_law) a_law cdv A outer s H E).nox ⟨⟨K, dk⟩, W, ow_law, H0, R0⟩ ((defBody s_law).drop 1) (b_law c_same c_made c_first c_next c_function c_drawn_kinds) :=
    (db_cons (ds_for (di_r1 d_int (by rfl) T.t_range) (dg_name (pg_name (i := 2) sc_law.nd rfl (Or.inl rfl))) (db_cons (ds_set (i := 3) sc_law.nd rfl (Or.inl rfl) (d_call G_drawn_kinds (hr.mono (by omega)) (by rfl) C_drawn_kinds.m C_drawn_kinds.F.kp C_drawn_kinds.b (da_cons (d_var (pv 1)) da_nil)))
    (db_cons (ds_set (i := 4) sc_law.nd rfl (Or.inl rfl) (d_tup da_nil aNil_len))
    (db_cons (ds_if (dt_eq hr.units (d_mod (d_call G_next (hr.mono (by omega)) (by rfl) C_next.m C_next.F.kp C_next.b (da_cons (d_var (pv 1)) da_nil)) d_int) d_int) (db_one (ds_set (i := 4) sc_law.nd rfl (Or.inl rfl) (d_call G_function (hr.mono (by omega)) (by rfl) C_function.m C_function.F.kp C_function.b (da_cons (d_var (pv 3)) da_nil)))) db_nil)
    (db_cons (ds_set (i := 5) sc_law.nd rfl (Or.inl rfl) (d_call G_first (hr.mono (by omega)) (by rfl) C_first.m C_first.F.kp C_first.b (da_cons (d_var (pv 3)) (da_cons (d_var (pv 4)) da_nil))))
    (db_cons (ds_set (i := 6) sc_law.nd rfl (Or.inl rfl) (d_tup (da_cons d_str da_nil) (aCons_len aNil_len)))
    (db_cons (ds_if (dt_isnot (d_var (pv 5)) d_non) (db_one (ds_set (i := 6) sc_law.nd rfl (Or.inl rfl) (d_tup (da_cons d_str (da_cons (d_var (pv 5)) da_nil)) (aCons_len (aCons_len aNil_len))))) db_nil)
    (db_one (ds_if (dt_not (dt_tr (d_call G_same (hr.mono (by omega)) (by rfl) C_same.m C_same.F.kp C_same.b (da_cons (d_call G_made (hr.mono (by omega)) (by rfl) C_made.m C_made.F.kp C_made.b (da_cons (d_var (pv 3)) (da_cons (d_var (pv 4)) da_nil))) (da_cons (d_var (pv 6)) da_nil))))) (db_one (ds_ret d_bl)) db_nil)))))))))
    (db_one (ds_ret d_bl)))
end Sh


set_option Elab.async false
set_option linter.all false
set_option maxRecDepth 100000
namespace Sh
open PySem L2 Nf
/-! all([..]) -/
theorem bls_all {α : Type} {p : α → Bool} : ∀ xs : List α, bls (xs.map fun x => D.bl (p x)) = some (xs.map p)
  | [] => rfl
  | x :: r => by
    show (bls (r.map fun x => D.bl (p x))).map (p x :: ·) = _
    rw [bls_all r]; rfl
theorem all_e {α : Type} {ti : Id'} {g : Gd} {te : Ed} {vs : List Nat} {ρ : Sd} {n : Nat} {xs : List α} {fd : α → D} {p : α → Bool} (hi : ti ρ n = some (xs.map fd, n)) (h : ∀ x ∈ xs, ∃ ρ1, g (fd x) (wipeD ρ vs) = some ρ1 ∧ te ρ1 n = some (.bl (p x), n)) :
    eF (f1 fAll) (aCons (eLc ti g tY te vs) aNil) ρ n = some (.bl (xs.all p), n) := by
  refine eF_e (aCons_e (eLc_e hi (lcM_map (h := fun x => D.bl (p x)) xs h)) aNil_e) ?_
  show (bls (xs.map fun x => D.bl (p x))).map (fun bs => D.bl (bs.all _root_.id)) = _
  rw [bls_all]
  show some (D.bl ((xs.map p).all _root_.id)) = _
  rw [List.all_map]; rfl
theorem vCh_t {f g : D → D → Option D} {ta tb tc : Ed} {ρ : Sd} {n m1 m2 m3 : Nat} {x y w d : D} (ha : ta ρ n = some (x, m1)) (hb : tb ρ m1 = some (y, m2)) (hf : f x y = some (.bl true)) (hc : tc ρ m2 = some (w, m3)) (hg : g y w = some d) : vCh f g ta tb tc ρ n = some (d, m3) := by
  unfold vCh Mb
  rw [ha]
  simp only [hb, Mo, hf, Option.map_some, show fTr (.bl true) = some true from rfl, if_true, hc, hg]
theorem vCh_f {f g : D → D → Option D} {ta tb tc : Ed} {ρ : Sd} {n m1 m2 : Nat} {x y : D} (ha : ta ρ n = some (x, m1)) (hb : tb ρ m1 = some (y, m2)) (hf : f x y = some (.bl false)) : vCh f g ta tb tc ρ n = some (.bl false, m2) := by
  unfold vCh Mb
  rw [ha]
  have e : ¬ fTr (.bl false) = some true := by decide
  simp only [hb, Mo, hf, Option.map_some, if_neg e]; rfl
/-! words -/
def F_text : List D → M D := fnA 3 4 b_is_text_of
def F_word : List D → M D := fnA 1 1 (b_is_word F_text)
def F_row : List D → M D := fnA 3 3 b_is_row
def F_kn : List D → M D := fnA 1 1 (b_is_kind_name F_word)
def F_kns : List D → M D := fnA 1 2 (b_are_kind_names F_kn F_row)
def F_mf : List D → M D := fnA 1 1 (b_is_maker_form F_kns F_word F_row)
def F_kf : List D → M D := fnA 1 2 (b_is_kind_form F_mf F_row F_word)
def nws : List Str := ["a", "bb", "kc", "kd", "num", "list", "tree"]
def kws : List Str := nws ++ [("none" : Str)]
def mws : List Str := ["ma", "mb", "mc", "md", "me", "mf", "mg", "mh", "mi", "mj", "mk", "ml", "mm", "mn", "mo", "mp", "mq"]
def words : List Str := kws ++ mws ++ [("first" : Str), "yes", "no"]
def wdB (x : Str) : Bool := decide ((F_word [.str x] 0).map (fun p => match p.1 with | .bl b => b | _ => false) = some true)
theorem word_at : ∀ x ∈ words, ∀ n, F_word [.str x] n = some (.bl true, n) := by
  intro x hx n
  simp only [words, kws, nws, mws, List.cons_append, List.nil_append, List.mem_cons, List.not_mem_nil, or_false] at hx
  rcases hx with rfl | rfl | rfl | rfl | rfl | rfl | rfl | rfl | rfl | rfl | rfl | rfl | rfl | rfl | rfl | rfl | rfl | rfl | rfl | rfl | rfl | rfl | rfl | rfl | rfl | rfl | rfl | rfl <;> kernel_rfl
theorem row_f {ds : List D} {lo hi : Int} {n : Nat} : F_row [.tup ds, .int lo, .int hi] n = some (.bl (decide (lo ≤ (ds.length : Int)) && decide ((ds.length : Int) ≤ hi)), n) := by
  refine fn_ret rfl ?_
  show b_is_row [some (.tup ds), some (.int lo), some (.int hi)] n = _
  unfold b_is_row
  refine sRet_r ((vAn_t rfl rfl).trans ?_)
  have el : eF (f1 fLen) (aCons (eVar 0) aNil) [some (.tup ds), some (.int lo), some (.int hi)] n = some (.int (ds.length : Nat), n) := eF_e (aCons_e (eVar_e rfl) aNil_e) rfl
  by_cases h : lo ≤ (ds.length : Int)
  · refine (vCh_t (eVar_e rfl) el (show some (D.bl (decide (lo ≤ (ds.length : Int)))) = _ by rw [decide_eq_true h]) (eVar_e rfl) (d := .bl (decide ((ds.length : Int) ≤ hi))) rfl).trans ?_
    rw [decide_eq_true h, Bool.true_and]
  · refine (vCh_f (eVar_e rfl) el (show some (D.bl (decide (lo ≤ (ds.length : Int)))) = _ by rw [decide_eq_false h])).trans ?_
    rw [decide_eq_false h, Bool.false_and]
/-! kinds -/
structure Mk where
  w : Str
  ps : List Str
structure Kd where
  k : Str
  ms : List Mk
def Mk.d (m : Mk) : D := .tup [.str m.w, .tup (m.ps.map .str)]
def Kd.d (k : Kd) : D := .tup [.str k.k, .tup (k.ms.map Mk.d)]
def MkIn (m : Mk) : Prop := m.w ∈ mws ∧ m.ps.length ≤ 3 ∧ ∀ p ∈ m.ps, p ∈ kws ∨ p = "truth"
def KdIn (k : Kd) : Prop := k.k ∈ nws ∧ 1 ≤ k.ms.length ∧ k.ms.length ≤ 4 ∧ ∀ m ∈ k.ms, MkIn m
def KsIn (ks : List Kd) : Prop := ks.length ≤ 4 ∧ ∀ k ∈ ks, KdIn k
theorem in_words {x : Str} : (x ∈ kws ∨ x ∈ mws) → x ∈ words := fun h => by
  unfold words
  rcases h with h | h
  · exact List.mem_append_left _ (List.mem_append_left _ h)
  · exact List.mem_append_left _ (List.mem_append_right _ h)
theorem kn_truth (n : Nat) : F_kn [.str "truth"] n = some (.bl true, n) := by kernel_rfl
theorem kn_f {x : Str} {n : Nat} (h : x ∈ kws ∨ x = "truth") : F_kn [.str x] n = some (.bl true, n) := by
  rcases h with h | rfl
  · refine fn_ret rfl ?_
    show b_is_kind_name F_word [some (.str x)] n = _
    unfold b_is_kind_name
    exact sRet_r (vOr_t (eCall_e (aCons_e (eVar_e rfl) aNil_e) (word_at x (in_words (.inl h)) n)) rfl)
  · exact kn_truth n
theorem all_yes {α : Type} (xs : List α) : (xs.all fun _ => true) = true := by simp
theorem kns_f {ps : List Str} {n : Nat} (hl : ps.length ≤ 3) (h : ∀ p ∈ ps, p ∈ kws ∨ p = "truth") : F_kns [.tup (ps.map .str)] n = some (.bl true, n) := by
  refine fn_ret rfl ?_
  show b_are_kind_names F_kn F_row [some (.tup (ps.map .str)), none] n = _
  unfold b_are_kind_names
  refine sRet_r ((vAn_t (x := .bl true) (m := n) (eCall_e (aCons_e (eVar_e rfl) (aCons_e rfl (aCons_e rfl aNil_e))) ((row_f (ds := ps.map .str) (lo := 0) (hi := 3)).trans ?_)) rfl).trans ((all_e (fd := D.str) (xs := ps) (p := fun _ => true) (iSeq_e (eVar_e rfl) (items_tup (by rw [List.length_map]; omega))) fun x hx => ⟨_, rfl, eCall_e (aCons_e (eVar_e rfl) aNil_e) (kn_f (h x hx))⟩).trans ?_))
  · rw [List.length_map, decide_eq_true (show (0 : Int) ≤ (ps.length : Int) by omega), decide_eq_true (show (ps.length : Int) ≤ 3 by omega)]; rfl
  · rw [all_yes]
theorem mf_f {m : Mk} {n : Nat} (h : MkIn m) : F_mf [m.d] n = some (.bl true, n) := by
  refine fn_ret rfl ?_
  show b_is_maker_form F_kns F_word F_row [some m.d] n = _
  unfold b_is_maker_form
  exact sRet_r ((vAn_t (eCall_e (aCons_e (eVar_e rfl) (aCons_e rfl (aCons_e rfl aNil_e))) ((row_f (ds := [.str m.w, .tup (m.ps.map .str)]) (lo := 2) (hi := 2)).trans rfl)) rfl).trans
    ((vAn_t (eCall_e (aCons_e (e2_e (eVar_e rfl) rfl (z := .str m.w) rfl) aNil_e) (word_at _ (in_words (.inr h.1)) n)) rfl).trans (eCall_e (aCons_e (e2_e (eVar_e rfl) rfl (z := .tup (m.ps.map .str)) rfl) aNil_e) (kns_f h.2.1 h.2.2))))
theorem nws_kws {x : Str} (h : x ∈ nws) : x ∈ kws := List.mem_append_left _ h
theorem kf_f {k : Kd} {n : Nat} (h : KdIn k) : F_kf [k.d] n = some (.bl true, n) := by
  have e1 : e2 fDG (eVar 0) (eC (.int 1)) [some k.d, none] n = some (.tup (k.ms.map Mk.d), n) := e2_e (eVar_e rfl) rfl rfl
  refine fn_ret rfl ?_
  show b_is_kind_form F_mf F_row F_word [some k.d, none] n = _
  unfold b_is_kind_form
  refine (bSeq_n ((sIf_f ((tOr_f (tNt_e (b := true) (trB_e (eCall_e (aCons_e (eVar_e rfl) (aCons_e rfl (aCons_e rfl aNil_e))) ((row_f (ds := [.str k.k, .tup (k.ms.map Mk.d)]) (lo := 2) (hi := 2)).trans rfl)) rfl))).trans
    ((tOr_f (tNt_e (b := true) (trB_e (eCall_e (aCons_e (e2_e (eVar_e rfl) rfl (z := .str k.k) rfl) aNil_e) (word_at _ (in_words (.inl (nws_kws h.1))) n)) rfl))).trans
    (tNt_e (b := true) (trB_e (x := .bl true) (eCall_e (aCons_e e1 (aCons_e rfl (aCons_e rfl aNil_e))) ((row_f (ds := k.ms.map Mk.d) (lo := 1) (hi := 4)).trans ?_)) rfl))))).trans rfl)).trans
    (sRet_r ((all_e (fd := Mk.d) (xs := k.ms) (p := fun _ => true) (iSeq_e e1 (items_tup (by have := h.2.2.1; rw [List.length_map]; omega))) fun x hx => ⟨_, rfl, eCall_e (aCons_e (eVar_e rfl) aNil_e) (mf_f (h.2.2.2 x hx))⟩).trans ?_))
  · have := h.2.1
    have := h.2.2.1
    rw [List.length_map, decide_eq_true (show (1 : Int) ≤ (k.ms.length : Int) by omega), decide_eq_true (show (k.ms.length : Int) ≤ 4 by omega)]; rfl
  · rw [all_yes]
end Sh


set_option Elab.async false
set_option linter.all false
set_option maxRecDepth 100000
namespace Sh
open PySem L2 Nf
theorem flt_strs (xs : List Str) : (xs.map D.str).all D.flt = true := by
  rw [List.all_eq_true]
  intro d hd
  obtain ⟨x, _, rfl⟩ := List.mem_map.mp hd
  rfl
theorem any_strs (x : Str) : ∀ xs : List Str, ((xs.map D.str).any fun y => eqF y (.str x)) = xs.contains x
  | [] => rfl
  | y :: r => by
    rw [List.map_cons, List.any_cons, any_strs x r, List.contains_cons]
    congr 1
    show (y == x) = (x == y)
    by_cases h : y = x
    · rw [h]
    · rw [beq_eq_false_iff_ne.mpr h, beq_eq_false_iff_ne.mpr (Ne.symm h)]
theorem in_l {x : Str} {xs : List Str} : fInD (.str x) (.lst (xs.map .str)) = some (.bl (xs.contains x)) := by
  show (if _ then some _ else none).map D.bl = _
  rw [if_pos ⟨rfl, flt_strs xs⟩, any_strs]; rfl
theorem notin_l {x : Str} {xs : List Str} : fNotInD (.str x) (.lst (xs.map .str)) = some (.bl (!xs.contains x)) := by
  show (if _ then some _ else none).map (fun b => D.bl (!b)) = _
  rw [if_pos ⟨rfl, flt_strs xs⟩, any_strs]; rfl
/-! are_among, kinds_there -/
def am (ps there : List Str) : Bool := ps.all fun p => there.contains p
def F_am : List D → M D := fnA 2 3 b_are_among
theorem am_f {ps there : List Str} {n : Nat} (h : ps.length ≤ 1000) : F_am [.tup (ps.map .str), .lst (there.map .str)] n = some (.bl (am ps there), n) := by
  refine fn_ret rfl ?_
  show b_are_among [some (.tup (ps.map .str)), some (.lst (there.map .str)), none] n = _
  unfold b_are_among
  exact sRet_r (all_e (fd := D.str) (xs := ps) (p := fun p => there.contains p) (iSeq_e (eVar_e rfl) (items_tup (by rw [List.length_map]; omega))) fun x hx => ⟨_, rfl, e2_e (eVar_e rfl) (eVar_e rfl) in_l⟩)
def F_kt : List D → M D := fnA 1 3 b_kinds_there
theorem kt_f {ks : List Kd} {n : Nat} (h : ks.length ≤ 4) : F_kt [.tup (ks.map Kd.d)] n = some (.lst ((("truth" : Str) :: ks.map Kd.k).map .str), n) := by
  refine fn_ret rfl ?_
  show b_kinds_there [some (.tup (ks.map Kd.d)), none, none] n = _
  unfold b_kinds_there
  refine sRet_r (e2_e (eLst_e (aCons_e rfl aNil_e)) (eLc_e (iSeq_e (eVar_e rfl) (items_tup (by rw [List.length_map]; omega))) (lcM_map (h := fun k => .str k.k) ks fun k hk => ⟨_, rfl, eVar_e rfl⟩)) ?_)
  rw [add_lst (by simp; omega), List.map_cons, List.map_map]; rfl
theorem enum_tup {xs : List D} (h : xs.length ≤ 1000000) : fEnum (.tup xs) = some (enD 0 xs) := by
  show szl xs.length _ = _
  unfold szl
  rw [if_pos (by rw [PySem.sizeLine_eq]; omega)]
/-! a repeated kind -/
def rk : Nat → List Str → List Kd → Option Nat
  | _, _, [] => none
  | i, seen, k :: r => if seen.contains k.k = true then some i else rk (i + 1) (seen ++ [k.k]) r
def plc (t : Str) : Option Nat → D
  | none => .non
  | some i => .tup [.str t, .int (i : Nat)]
def F_rk : List D → M D := fnA 1 5 b_repeated_kind
theorem rk_loop {K : D} {n : Nat} : ∀ (ks : List Kd) (i : Nat) (seen : List Str) (x2 x3 x4 : Option D), ks.length + seen.length ≤ 1000 → ∃ fl, fM (gT (gsC (gN 2) (gsC (gT (gsC (gN 3) (gsC (gN 4) gsN))) gsN))) l1_repeated_kind (enD i (ks.map Kd.d)) [some K, some (.lst (seen.map .str)), x2, x3, x4] n = some (fl, n) ∧
    match rk i seen ks with
    | some j => fl = .ret (.tup [.str "kind", .int (j : Nat)])
    | none => ∃ ρ, fl = .next ρ
  | [], i, seen, x2, x3, x4, h => ⟨_, rfl, _, rfl⟩
  | k :: r, i, seen, x2, x3, x4, h => by
    have g : (gT (gsC (gN 2) (gsC (gT (gsC (gN 3) (gsC (gN 4) gsN))) gsN))) (.tup [.int (i : Nat), k.d]) [some K, some (.lst (seen.map .str)), x2, x3, x4] = some [some K, some (.lst (seen.map .str)), some (.int (i : Nat)), some (.str k.k), some (.tup (k.ms.map Mk.d))] := rfl
    have t : trB (e2 fInD (eVar 3) (eVar 1)) [some K, some (.lst (seen.map .str)), some (.int (i : Nat)), some (.str k.k), some (.tup (k.ms.map Mk.d))] n = some (seen.contains k.k, n) := trB_e (e2_e (eVar_e rfl) (eVar_e rfl) in_l) rfl
    by_cases c : seen.contains k.k = true
    · rw [c] at t
      refine ⟨_, fM_ret g (by unfold l1_repeated_kind; exact bSeq_r ((sIf_t t).trans (sRet_r (eTup_e (aCons_e rfl (aCons_e (eVar_e rfl) aNil_e)))))), ?_⟩
      have e : rk i seen (k :: r) = some i := if_pos c
      rw [e]
    · rw [Bool.eq_false_iff.mpr c] at t
      obtain ⟨fl, h1, h2⟩ := rk_loop (K := K) (n := n) r (i + 1) (seen ++ [k.k]) (some (.int (i : Nat))) (some (.str k.k)) (some (.tup (k.ms.map Mk.d))) (by simp at h ⊢; omega)
      have e : rk i seen (k :: r) = rk (i + 1) (seen ++ [k.k]) r := if_neg c
      rw [e]
      refine ⟨fl, ?_, h2⟩
      rw [List.map_append] at h1
      exact (fM_next g (by unfold l1_repeated_kind; exact (bSeq_n ((sIf_f t).trans rfl)).trans (sApp_n rfl (eVar_e rfl) (by rw [List.length_map]; simp at h; omega)))).trans h1
theorem rk_f {ks : List Kd} {n : Nat} (h : ks.length ≤ 4) : F_rk [.tup (ks.map Kd.d)] n = some (plc "kind" (rk 0 [] ks), n) := by
  obtain ⟨fl, h1, h2⟩ := rk_loop (K := .tup (ks.map Kd.d)) (n := n) ks 0 [] none none none (by simp; omega)
  refine fn_ret rfl ?_
  show b_repeated_kind [some (.tup (ks.map Kd.d)), none, none, none, none] n = _
  unfold b_repeated_kind
  have hF : sFor (i1 fEnum (eVar 0)) (gT (gsC (gN 2) (gsC (gT (gsC (gN 3) (gsC (gN 4) gsN))) gsN))) l1_repeated_kind [some (.tup (ks.map Kd.d)), some (.lst []), none, none, none] n = some (fl, n) := (sFor_i (i1_e (eVar_e rfl) (enum_tup (by rw [List.length_map]; omega)))).trans h1
  refine (bSeq_n (sSet_n (eLst_e aNil_e))).trans ?_
  cases e : rk 0 [] ks with
  | none =>
    rw [e] at h2
    obtain ⟨ρ, rfl⟩ := h2
    exact (bSeq_n hF).trans (sRet_r rfl)
  | some j =>
    rw [e] at h2
    subst h2
    exact bSeq_r hF
end Sh


set_option Elab.async false
set_option linter.all false
set_option maxRecDepth 100000
namespace Sh
open PySem L2 Nf
/-! a wrong maker -/
def wmI (th : List Str) : Nat → List Str → List Mk → Nat ⊕ List Str
  | _, kn, [] => .inr kn
  | j, kn, m :: r => if (kn.contains m.w || !am m.ps th) = true then .inl j else wmI th (j + 1) (kn ++ [m.w]) r
def wmO (th : List Str) : Nat → List Str → List Kd → Option (Nat × Nat)
  | _, _, [] => none
  | i, kn, k :: r => match wmI th 0 kn k.ms with
    | .inl j => some (i, j)
    | .inr kn' => wmO th (i + 1) kn' r
def plm : Option (Nat × Nat) → D
  | none => .non
  | some (i, j) => .tup [.str "maker", .int (i : Nat), .int (j : Nat)]
def F_wm : List D → M D := fnA 1 9 (b_wrong_maker F_am F_kt)
theorem wmI_len {th : List Str} : ∀ {ms : List Mk} {j : Nat} {kn kn' : List Str}, wmI th j kn ms = .inr kn' → kn'.length = kn.length + ms.length
  | [], _, _, _, h => by cases h; rfl
  | m :: r, j, kn, kn', h => by
    have h' : (if (kn.contains m.w || !am m.ps th) = true then Sum.inl j else wmI th (j + 1) (kn ++ [m.w]) r) = .inr kn' := h
    by_cases c : (kn.contains m.w || !am m.ps th) = true
    · rw [if_pos c] at h'; cases h'
    · rw [if_neg c] at h'
      have := wmI_len h'
      simp at this ⊢; omega
theorem wmI_loop {K : D} {th : List Str} {n : Nat} {i : Nat} {x4 x5 : Option D} : ∀ (ms : List Mk) (j : Nat) (kn : List Str) (x6 x7 x8 : Option D), ms.length + kn.length ≤ 1000 → (∀ m ∈ ms, m.ps.length ≤ 3) → ∃ fl, fM (gT (gsC (gN 6) (gsC (gT (gsC (gN 7) (gsC (gN 8) gsN))) gsN))) (l1_wrong_maker F_am) (enD j (ms.map Mk.d)) [some K, some (.lst (th.map .str)), some (.lst (kn.map .str)), some (.int (i : Nat)), x4, x5, x6, x7, x8] n = some (fl, n) ∧
    match wmI th j kn ms with
    | .inl j' => fl = .ret (.tup [.str "maker", .int (i : Nat), .int (j' : Nat)])
    | .inr kn' => ∃ y6 y7 y8, fl = .next [some K, some (.lst (th.map .str)), some (.lst (kn'.map .str)), some (.int (i : Nat)), x4, x5, y6, y7, y8]
  | [], j, kn, x6, x7, x8, _, _ => ⟨_, rfl, _, _, _, rfl⟩
  | m :: r, j, kn, x6, x7, x8, h, hm => by
    have g : (gT (gsC (gN 6) (gsC (gT (gsC (gN 7) (gsC (gN 8) gsN))) gsN))) (.tup [.int (j : Nat), m.d]) [some K, some (.lst (th.map .str)), some (.lst (kn.map .str)), some (.int (i : Nat)), x4, x5, x6, x7, x8] = some [some K, some (.lst (th.map .str)), some (.lst (kn.map .str)), some (.int (i : Nat)), x4, x5, some (.int (j : Nat)), some (.str m.w), some (.tup (m.ps.map .str))] := rfl
    have t : tOr' (trB (e2 fInD (eVar 7) (eVar 2))) (tNt (trB (eCall F_am (aCons (eVar 8) (aCons (eVar 1) aNil))))) [some K, some (.lst (th.map .str)), some (.lst (kn.map .str)), some (.int (i : Nat)), x4, x5, some (.int (j : Nat)), some (.str m.w), some (.tup (m.ps.map .str))] n = some (kn.contains m.w || !am m.ps th, n) := by
      have t1 : trB (e2 fInD (eVar 7) (eVar 2)) [some K, some (.lst (th.map .str)), some (.lst (kn.map .str)), some (.int (i : Nat)), x4, x5, some (.int (j : Nat)), some (.str m.w), some (.tup (m.ps.map .str))] n = some (kn.contains m.w, n) := trB_e (e2_e (eVar_e rfl) (eVar_e rfl) in_l) rfl
      cases c : kn.contains m.w with
      | true => rw [c] at t1; exact tOr_t t1
      | false =>
        rw [c] at t1
        exact (tOr_f t1).trans (tNt_e (trB_e (eCall_e (aCons_e (eVar_e rfl) (aCons_e (eVar_e rfl) aNil_e)) (am_f (by have := hm m (by simp); omega))) rfl))
    by_cases c : (kn.contains m.w || !am m.ps th) = true
    · rw [c] at t
      refine ⟨_, fM_ret g (by unfold l1_wrong_maker; exact bSeq_r ((sIf_t t).trans (sRet_r (eTup_e (aCons_e rfl (aCons_e (eVar_e rfl) (aCons_e (eVar_e rfl) aNil_e))))))), ?_⟩
      have e : wmI th j kn (m :: r) = .inl j := if_pos c
      rw [e]
    · rw [Bool.eq_false_iff.mpr c] at t
      obtain ⟨fl, h1, h2⟩ := wmI_loop (K := K) (th := th) (n := n) (i := i) (x4 := x4) (x5 := x5) r (j + 1) (kn ++ [m.w]) (some (.int (j : Nat))) (some (.str m.w)) (some (.tup (m.ps.map .str))) (by simp at h ⊢; omega) fun q hq => hm q (by simp [hq])
      have e : wmI th j kn (m :: r) = wmI th (j + 1) (kn ++ [m.w]) r := if_neg c
      rw [e]
      refine ⟨fl, ?_, h2⟩
      rw [List.map_append] at h1
      exact (fM_next g (by unfold l1_wrong_maker; exact (bSeq_n ((sIf_f t).trans rfl)).trans (sApp_n rfl (eVar_e rfl) (by rw [List.length_map]; simp at h; omega)))).trans h1
theorem wmO_loop {K : D} {th : List Str} {n : Nat} : ∀ (ks : List Kd) (i : Nat) (kn : List Str) (x3 x4 x5 x6 x7 x8 : Option D), 4 * ks.length + kn.length ≤ 1000 → (∀ k ∈ ks, k.ms.length ≤ 4 ∧ ∀ m ∈ k.ms, m.ps.length ≤ 3) → ∃ fl, fM (gT (gsC (gN 3) (gsC (gT (gsC (gN 4) (gsC (gN 5) gsN))) gsN))) (l2_wrong_maker F_am) (enD i (ks.map Kd.d)) [some K, some (.lst (th.map .str)), some (.lst (kn.map .str)), x3, x4, x5, x6, x7, x8] n = some (fl, n) ∧
    match wmO th i kn ks with
    | some (i', j') => fl = .ret (.tup [.str "maker", .int (i' : Nat), .int (j' : Nat)])
    | none => ∃ ρ, fl = .next ρ
  | [], i, kn, x3, x4, x5, x6, x7, x8, _, _ => ⟨_, rfl, _, rfl⟩
  | k :: r, i, kn, x3, x4, x5, x6, x7, x8, h, hk => by
    obtain ⟨h4, h3⟩ := hk k (by simp)
    have g : (gT (gsC (gN 3) (gsC (gT (gsC (gN 4) (gsC (gN 5) gsN))) gsN))) (.tup [.int (i : Nat), k.d]) [some K, some (.lst (th.map .str)), some (.lst (kn.map .str)), x3, x4, x5, x6, x7, x8] = some [some K, some (.lst (th.map .str)), some (.lst (kn.map .str)), some (.int (i : Nat)), some (.str k.k), some (.tup (k.ms.map Mk.d)), x6, x7, x8] := rfl
    obtain ⟨fl, h1, h2⟩ := wmI_loop (K := K) (th := th) (n := n) (i := i) (x4 := some (.str k.k)) (x5 := some (.tup (k.ms.map Mk.d))) k.ms 0 kn x6 x7 x8 (by simp at h; omega) h3
    have hb : l2_wrong_maker F_am [some K, some (.lst (th.map .str)), some (.lst (kn.map .str)), some (.int (i : Nat)), some (.str k.k), some (.tup (k.ms.map Mk.d)), x6, x7, x8] n = some (fl, n) := by
      unfold l2_wrong_maker
      exact (sFor_i (i1_e (eVar_e rfl) (enum_tup (by rw [List.length_map]; omega)))).trans h1
    have e : wmO th i kn (k :: r) = match wmI th 0 kn k.ms with
      | .inl j => some (i, j)
      | .inr kn' => wmO th (i + 1) kn' r := rfl
    rw [e]
    cases c : wmI th 0 kn k.ms with
    | inl j =>
      rw [c] at h2
      subst h2
      exact ⟨_, fM_ret g hb, rfl⟩
    | inr kn' =>
      rw [c] at h2
      obtain ⟨y6, y7, y8, rfl⟩ := h2
      have hl := wmI_len c
      obtain ⟨fl, h3, h4⟩ := wmO_loop (K := K) (th := th) (n := n) r (i + 1) kn' (some (.int (i : Nat))) (some (.str k.k)) (some (.tup (k.ms.map Mk.d))) y6 y7 y8 (by simp at h; omega) fun q hq => hk q (by simp [hq])
      exact ⟨fl, (fM_next g hb).trans h3, h4⟩
def thr (ks : List Kd) : List Str := ("truth" : Str) :: ks.map Kd.k
theorem wm_f {ks : List Kd} {n : Nat} (h : ks.length ≤ 4) (hk : ∀ k ∈ ks, k.ms.length ≤ 4 ∧ ∀ m ∈ k.ms, m.ps.length ≤ 3) : F_wm [.tup (ks.map Kd.d)] n = some (plm (wmO (thr ks) 0 ["yes", "no"] ks), n) := by
  obtain ⟨fl, h1, h2⟩ := wmO_loop (K := .tup (ks.map Kd.d)) (th := thr ks) (n := n) ks 0 ["yes", "no"] none none none none none none (by simp; omega) hk
  refine fn_ret rfl ?_
  show b_wrong_maker F_am F_kt [some (.tup (ks.map Kd.d)), none, none, none, none, none, none, none, none] n = _
  unfold b_wrong_maker
  have hF : sFor (i1 fEnum (eVar 0)) (gT (gsC (gN 3) (gsC (gT (gsC (gN 4) (gsC (gN 5) gsN))) gsN))) (l2_wrong_maker F_am) [some (.tup (ks.map Kd.d)), some (.lst ((thr ks).map .str)), some (.lst ((["yes", "no"] : List Str).map .str)), none, none, none, none, none, none] n = some (fl, n) := (sFor_i (i1_e (eVar_e rfl) (enum_tup (by rw [List.length_map]; omega)))).trans h1
  refine (bSeq_n (sSet_n (eCall_e (aCons_e (eVar_e rfl) aNil_e) (kt_f h)))).trans ((bSeq_n (sSet_n (d := .lst ((["yes", "no"] : List Str).map .str)) rfl)).trans ?_)
  cases e : wmO (thr ks) 0 ["yes", "no"] ks with
  | none =>
    rw [e] at h2
    obtain ⟨ρ, rfl⟩ := h2
    exact (bSeq_n hF).trans (sRet_r rfl)
  | some p =>
    obtain ⟨i, j⟩ := p
    rw [e] at h2
    subst h2
    exact bSeq_r hF
end Sh


set_option Elab.async false
set_option linter.all false
set_option maxRecDepth 100000
namespace Sh
open PySem L2 Nf
theorem any_e {α : Type} {ti : Id'} {g : Gd} {te : Ed} {vs : List Nat} {ρ : Sd} {n : Nat} {xs : List α} {fd : α → D} {p : α → Bool} (hi : ti ρ n = some (xs.map fd, n)) (h : ∀ x ∈ xs, ∃ ρ1, g (fd x) (wipeD ρ vs) = some ρ1 ∧ te ρ1 n = some (.bl (p x), n)) :
    eF (f1 fAny) (aCons (eLc ti g tY te vs) aNil) ρ n = some (.bl (xs.any p), n) := by
  refine eF_e (aCons_e (eLc_e hi (lcM_map (h := fun x => D.bl (p x)) xs h)) aNil_e) ?_
  show (bls (xs.map fun x => D.bl (p x))).map (fun bs => D.bl (bs.any _root_.id)) = _
  rw [bls_all]
  show some (D.bl ((xs.map p).any _root_.id)) = _
  rw [List.any_map]; rfl
theorem r1_e {j : Int} (h : 0 ≤ j ∧ j ≤ 1000) : fR1 (.int j) = some (rngD 0 j.toNat) := if_pos (by omega)
/-! the kinds with things -/
def th1 : List Str → List Kd → List Str
  | f, [] => f
  | f, k :: r => th1 (if (!f.contains k.k && k.ms.any fun m => am m.ps f) = true then f ++ [k.k] else f) r
def thN (ks : List Kd) : Nat → List Str → List Str
  | 0, f => f
  | j + 1, f => thN ks j (th1 f ks)
theorem th1_len : ∀ (ks : List Kd) (f : List Str), (th1 f ks).length ≤ f.length + ks.length
  | [], _ => Nat.le_refl _
  | k :: r, f => by
    have := th1_len r (if (!f.contains k.k && k.ms.any fun m => am m.ps f) = true then f ++ [k.k] else f)
    show (th1 _ r).length ≤ _
    have h2 : (if (!f.contains k.k && k.ms.any fun m => am m.ps f) = true then f ++ [k.k] else f).length ≤ f.length + 1 := by split <;> simp
    simp only [List.length_cons]; omega
def Sm4 (ks : List Kd) : Prop := ks.length ≤ 4 ∧ ∀ k ∈ ks, k.ms.length ≤ 4 ∧ ∀ m ∈ k.ms, m.ps.length ≤ 3
def F_th : List D → M D := fnA 1 7 (b_kinds_with_things F_am)
theorem th1_loop {K : D} {n : Nat} {x2 : Option D} : ∀ (ks : List Kd) (f : List Str) (x3 x4 : Option D), ks.length + f.length ≤ 1000 → (∀ k ∈ ks, k.ms.length ≤ 4 ∧ ∀ m ∈ k.ms, m.ps.length ≤ 3) → ∃ y3 y4, fM (gT (gsC (gN 3) (gsC (gN 4) gsN))) (l1_kinds_with_things F_am) (ks.map Kd.d) [some K, some (.lst (f.map .str)), x2, x3, x4, none, none] n = some (.next [some K, some (.lst ((th1 f ks).map .str)), x2, y3, y4, none, none], n)
  | [], f, x3, x4, _, _ => ⟨x3, x4, rfl⟩
  | k :: r, f, x3, x4, h, hk => by
    obtain ⟨h4, h3⟩ := hk k (by simp)
    have g : (gT (gsC (gN 3) (gsC (gN 4) gsN))) k.d [some K, some (.lst (f.map .str)), x2, x3, x4, none, none] = some [some K, some (.lst (f.map .str)), x2, some (.str k.k), some (.tup (k.ms.map Mk.d)), none, none] := rfl
    have t1 : trB (e2 fNotInD (eVar 3) (eVar 1)) [some K, some (.lst (f.map .str)), x2, some (.str k.k), some (.tup (k.ms.map Mk.d)), none, none] n = some (!f.contains k.k, n) := trB_e (e2_e (eVar_e rfl) (eVar_e rfl) notin_l) rfl
    have t2 : trB (eF (f1 fAny) (aCons (eLc (iSeq (eVar 4)) (gT (gsC (gN 5) (gsC (gN 6) gsN))) tY (eCall F_am (aCons (eVar 6) (aCons (eVar 1) aNil))) [5, 6]) aNil)) [some K, some (.lst (f.map .str)), x2, some (.str k.k), some (.tup (k.ms.map Mk.d)), none, none] n = some (k.ms.any fun m => am m.ps f, n) :=
      trB_e (any_e (fd := Mk.d) (xs := k.ms) (p := fun m => am m.ps f) (iSeq_e (eVar_e rfl) (items_tup (by rw [List.length_map]; omega))) fun m hm => ⟨_, rfl, eCall_e (aCons_e (eVar_e rfl) (aCons_e (eVar_e rfl) aNil_e)) (am_f (by have := h3 m hm; omega))⟩) rfl
    have t : tAn (trB (e2 fNotInD (eVar 3) (eVar 1))) (trB (eF (f1 fAny) (aCons (eLc (iSeq (eVar 4)) (gT (gsC (gN 5) (gsC (gN 6) gsN))) tY (eCall F_am (aCons (eVar 6) (aCons (eVar 1) aNil))) [5, 6]) aNil))) [some K, some (.lst (f.map .str)), x2, some (.str k.k), some (.tup (k.ms.map Mk.d)), none, none] n = some (!f.contains k.k && k.ms.any fun m => am m.ps f, n) := by
      cases c : (!f.contains k.k) with
      | true => rw [c] at t1; exact (tAn_t t1).trans t2
      | false => rw [c] at t1; exact tAn_f t1
    by_cases c : (!f.contains k.k && k.ms.any fun m => am m.ps f) = true
    · rw [c] at t
      obtain ⟨y3, y4, h5⟩ := th1_loop (K := K) (n := n) (x2 := x2) r (f ++ [k.k]) (some (.str k.k)) (some (.tup (k.ms.map Mk.d))) (by simp at h ⊢; omega) fun q hq => hk q (by simp [hq])
      have e : th1 f (k :: r) = th1 (f ++ [k.k]) r := by show th1 (if _ then _ else _) r = _; rw [if_pos c]
      rw [e]
      refine ⟨y3, y4, ?_⟩
      rw [List.map_append] at h5
      exact (fM_next g (by unfold l1_kinds_with_things; exact (sIf_t t).trans (sApp_n rfl (eVar_e rfl) (by rw [List.length_map]; simp at h; omega)))).trans h5
    · rw [Bool.eq_false_iff.mpr c] at t
      obtain ⟨y3, y4, h5⟩ := th1_loop (K := K) (n := n) (x2 := x2) r f (some (.str k.k)) (some (.tup (k.ms.map Mk.d))) (by simp at h ⊢; omega) fun q hq => hk q (by simp [hq])
      have e : th1 f (k :: r) = th1 f r := by show th1 (if _ then _ else _) r = _; rw [if_neg c]
      rw [e]
      exact ⟨y3, y4, (fM_next g (by unfold l1_kinds_with_things; exact (sIf_f t).trans rfl)).trans h5⟩
theorem thN_snoc (ks : List Kd) : ∀ (j : Nat) (f : List Str), thN ks (j + 1) f = th1 (thN ks j f) ks
  | 0, _ => rfl
  | j + 1, f => thN_snoc ks j (th1 f ks)
theorem th_f {ks : List Kd} {n : Nat} (h : Sm4 ks) : F_th [.tup (ks.map Kd.d)] n = some (.lst ((thN ks ks.length ["truth"]).map .str), n) := by
  have hl : ∀ j, (thN ks j ["truth"]).length ≤ 1 + j * ks.length := fun j => by
    induction j with
    | zero => simp [thN]
    | succ j ih =>
      rw [thN_snoc]
      have := th1_len ks (thN ks j ["truth"])
      rw [Nat.succ_mul]; omega
  obtain ⟨ρ', m', h1, y2, y3, y4, rfl, hm⟩ := fM_inv (g := gN 2) (b := l2_kinds_with_things F_am) (fun i ρ m => ∃ y2 y3 y4 : Option D, ρ = [some (.tup (ks.map Kd.d)), some (.lst ((thN ks i ["truth"]).map .str)), y2, y3, y4, none, none] ∧ m = n) (rngD 0 ks.length) 0
    [some (.tup (ks.map Kd.d)), some (.lst ((["truth"] : List Str).map .str)), none, none, none, none, none] n ⟨none, none, none, rfl, rfl⟩ (by
      rintro j d ρ m hj ⟨y2, y3, y4, rfl, rfl⟩
      have hjr : j < ks.length := by have := (List.getElem?_eq_some_iff.mp hj).1; rwa [rngD_len] at this
      have hz := hl (0 + j)
      have h16 : (0 + j) * ks.length ≤ 4 * 4 := Nat.mul_le_mul (by have := h.1; omega) h.1
      obtain ⟨z3, z4, e⟩ := th1_loop (K := .tup (ks.map Kd.d)) (n := m) (x2 := some d) ks (thN ks (0 + j) ["truth"]) y3 y4 (by have := h.1; omega) h.2
      refine ⟨_, _, m, rfl, ?_, some d, z3, z4, rfl, rfl⟩
      rw [thN_snoc]
      unfold l2_kinds_with_things
      exact (sFor_i (iSeq_e (eVar_e rfl) (items_tup (by have := h.1; rw [List.length_map]; omega)))).trans e)
  rw [rngD_len, Nat.zero_add, hm] at h1
  refine fn_ret rfl ?_
  show b_kinds_with_things F_am [some (.tup (ks.map Kd.d)), none, none, none, none, none, none] n = _
  unfold b_kinds_with_things
  refine (bSeq_n (sSet_n (d := .lst ((["truth"] : List Str).map .str)) rfl)).trans ((bSeq_n ((sFor_i (i1_e (eF_e (aCons_e (eVar_e rfl) aNil_e) (d := .int (ks.length : Nat)) (by show some (D.int _) = _; rw [List.length_map])) (r1_e ?_))).trans h1)).trans (sRet_r (eVar_e rfl)))
  have := h.1; omega
/-! an empty kind -/
def ek (f : List Str) : Nat → List Kd → Option Nat
  | _, [] => none
  | i, k :: r => if f.contains k.k = true then ek f (i + 1) r else some i
def F_ek : List D → M D := fnA 1 5 (b_empty_kind F_th)
theorem ek_loop {K : D} {f : List Str} {n : Nat} : ∀ (ks : List Kd) (i : Nat) (x2 x3 x4 : Option D), ∃ fl, fM (gT (gsC (gN 2) (gsC (gT (gsC (gN 3) (gsC (gN 4) gsN))) gsN))) l1_empty_kind (enD i (ks.map Kd.d)) [some K, some (.lst (f.map .str)), x2, x3, x4] n = some (fl, n) ∧
    match ek f i ks with
    | some j => fl = .ret (.tup [.str "empty", .int (j : Nat)])
    | none => ∃ ρ, fl = .next ρ
  | [], i, x2, x3, x4 => ⟨_, rfl, _, rfl⟩
  | k :: r, i, x2, x3, x4 => by
    have g : (gT (gsC (gN 2) (gsC (gT (gsC (gN 3) (gsC (gN 4) gsN))) gsN))) (.tup [.int (i : Nat), k.d]) [some K, some (.lst (f.map .str)), x2, x3, x4] = some [some K, some (.lst (f.map .str)), some (.int (i : Nat)), some (.str k.k), some (.tup (k.ms.map Mk.d))] := rfl
    have t : trB (e2 fNotInD (eVar 3) (eVar 1)) [some K, some (.lst (f.map .str)), some (.int (i : Nat)), some (.str k.k), some (.tup (k.ms.map Mk.d))] n = some (!f.contains k.k, n) := trB_e (e2_e (eVar_e rfl) (eVar_e rfl) notin_l) rfl
    by_cases c : f.contains k.k = true
    · rw [c] at t
      obtain ⟨fl, h1, h2⟩ := ek_loop (K := K) (f := f) (n := n) r (i + 1) (some (.int (i : Nat))) (some (.str k.k)) (some (.tup (k.ms.map Mk.d)))
      have e : ek f i (k :: r) = ek f (i + 1) r := if_pos c
      rw [e]
      exact ⟨fl, (fM_next g (by unfold l1_empty_kind; exact (sIf_f t).trans rfl)).trans h1, h2⟩
    · rw [Bool.eq_false_iff.mpr c] at t
      have e : ek f i (k :: r) = some i := if_neg c
      rw [e]
      exact ⟨_, fM_ret g (by unfold l1_empty_kind; exact (sIf_t t).trans (sRet_r (eTup_e (aCons_e rfl (aCons_e (eVar_e rfl) aNil_e))))), rfl⟩
theorem ek_f {ks : List Kd} {n : Nat} (h : Sm4 ks) : F_ek [.tup (ks.map Kd.d)] n = some (plc "empty" (ek (thN ks ks.length ["truth"]) 0 ks), n) := by
  obtain ⟨fl, h1, h2⟩ := ek_loop (K := .tup (ks.map Kd.d)) (f := thN ks ks.length ["truth"]) (n := n) ks 0 none none none
  refine fn_ret rfl ?_
  show b_empty_kind F_th [some (.tup (ks.map Kd.d)), none, none, none, none] n = _
  unfold b_empty_kind
  have hF : sFor (i1 fEnum (eVar 0)) (gT (gsC (gN 2) (gsC (gT (gsC (gN 3) (gsC (gN 4) gsN))) gsN))) l1_empty_kind [some (.tup (ks.map Kd.d)), some (.lst ((thN ks ks.length ["truth"]).map .str)), none, none, none] n = some (fl, n) := (sFor_i (i1_e (eVar_e rfl) (enum_tup (by have := h.1; rw [List.length_map]; omega)))).trans h1
  refine (bSeq_n (sSet_n (eCall_e (aCons_e (eVar_e rfl) aNil_e) (th_f h)))).trans ?_
  cases e : ek (thN ks ks.length ["truth"]) 0 ks with
  | none =>
    rw [e] at h2
    obtain ⟨ρ, rfl⟩ := h2
    exact (bSeq_n hF).trans (sRet_r rfl)
  | some j =>
    rw [e] at h2
    subst h2
    exact bSeq_r hF
end Sh


set_option Elab.async false
set_option linter.all false
set_option maxRecDepth 100000
namespace Sh
open PySem L2 Nf
/-! a comprehension with a test -/
theorem lcM_flt {α : Type} {g : Gd} {tt : Td} {te : Ed} {ρ : Sd} {n : Nat} {f h : α → D} {p : α → Bool} : ∀ (xs : List α), (∀ x ∈ xs, ∃ ρ1, g (f x) ρ = some ρ1 ∧ tt ρ1 n = some (p x, n) ∧ te ρ1 n = some (h x, n)) → lcM g tt te ρ (xs.map f) n = some ((xs.filter p).map h, n)
  | [], _ => rfl
  | x :: r, hx => by
    obtain ⟨ρ1, h1, h2, h3⟩ := hx x (by simp)
    have ih := lcM_flt (g := g) (tt := tt) (te := te) (ρ := ρ) (n := n) (f := f) (h := h) (p := p) r fun y hy => hx y (by simp [hy])
    rw [List.map_cons]
    unfold lcM
    unfold Mb
    rw [h1]
    simp only [Mo, Option.map_some, h2]
    cases c : p x with
    | true =>
      rw [List.filter_cons_of_pos c]
      simp only [if_true, h3, ih, Mp, List.map_cons]
    | false =>
      rw [List.filter_cons_of_neg (by rw [c]; decide)]
      simp only [Bool.false_eq_true, if_false, ih]
/-! xs != [] -/
theorem ne_nil {ds : List D} {ps : List PyData} (hp : D.pyA ds = some ps) (hc : PyData.canLayAll0 ps = true) (hd : PyData.depthAll ps ≤ 60) : fNe (.lst ds) (.lst []) = some (.bl (!ds.isEmpty)) := by
  have e1 : (D.lst ds).py = some (.list ps) := by simp only [D.py, hp, Option.map_some]
  have s1 : SeqAt.shaped (.list ps) = true := by
    have d : (PyData.list ps).depth ≤ 64 := by simp only [PyData.depth]; omega
    have c : (PyData.list ps).canLay0 = true := by simp only [PyData.canLay0]; exact hc
    unfold SeqAt.shaped
    rw [c, decide_eq_true d]; rfl
  have e2 : D.eqb (.lst ds) (.lst []) = some (PyData.eqv (.list ps) (.list [])) := by
    show (match (D.lst ds).py, (D.lst []).py with
      | some p, some q => if SeqAt.shaped p = true ∧ SeqAt.shaped q = true then some (PyData.eqv p q) else none
      | _, _ => none) = _
    rw [e1, show (D.lst []).py = some (.list []) from rfl]
    exact if_pos ⟨s1, by decide +kernel⟩
  unfold fNe
  rw [e2]
  cases ds with
  | nil => cases hp; rfl
  | cons d r =>
    cases ps with
    | nil =>
      exfalso
      simp only [D.pyA] at hp
      split at hp <;> cases hp
    | cons p q => rfl
theorem ones_ok {α : Type} : ∀ xs : List α, ∃ ps, D.pyA (xs.map fun _ => D.int 1) = some ps ∧ PyData.canLayAll0 ps = true ∧ PyData.depthAll ps ≤ 60
  | [] => ⟨[], rfl, rfl, by simp [PyData.depthAll]⟩
  | x :: r => by
    obtain ⟨ps, h1, h2, h3⟩ := ones_ok r
    refine ⟨.int 1 :: ps, by simp only [List.map_cons, D.pyA, D.py, h1], by simp only [PyData.canLayAll0, h2]; rfl, ?_⟩
    simp only [PyData.depthAll, PyData.depth]; omega
theorem okw : ∀ x ∈ words, okS x := by
  intro x hx
  simp only [words, kws, nws, mws, List.cons_append, List.nil_append, List.mem_cons, List.not_mem_nil, or_false] at hx
  rcases hx with rfl | rfl | rfl | rfl | rfl | rfl | rfl | rfl | rfl | rfl | rfl | rfl | rfl | rfl | rfl | rfl | rfl | rfl | rfl | rfl | rfl | rfl | rfl | rfl | rfl | rfl | rfl | rfl <;> decide +kernel
theorem strs_ok : ∀ xs : List Str, (∀ x ∈ xs, okS x) → ∃ ps, D.pyA (xs.map D.str) = some ps ∧ PyData.canLayAll0 ps = true ∧ PyData.depthAll ps ≤ 60
  | [], _ => ⟨[], rfl, rfl, by simp [PyData.depthAll]⟩
  | x :: r, h => by
    obtain ⟨ps, h1, h2, h3⟩ := strs_ok r fun y hy => h y (by simp [hy])
    have hx := h x (by simp)
    refine ⟨.str x :: ps, by simp only [List.map_cons, D.pyA, D.py, h1], ?_, ?_⟩
    · simp only [PyData.canLayAll0, h2, Bool.and_true, PyData.canLay0]; exact hx
    · simp only [PyData.depthAll, PyData.depth]; omega
end Sh


set_option Elab.async false
set_option linter.all false
set_option maxRecDepth 100000
namespace Sh
open PySem L2 Nf
/-! the law's own going: known kinds, with repetitions -/
def tl1 : List Str → List Kd → List Str
  | f, [] => f
  | f, k :: r => tl1 (if (k.ms.any fun m => am m.ps f) = true then f ++ [k.k] else f) r
def tlN (ks : List Kd) : Nat → List Str → List Str
  | 0, f => f
  | j + 1, f => tlN ks j (tl1 f ks)
/-- alike as sets -/
def Lk (f g : List Str) : Prop := ∀ x, f.contains x = g.contains x
theorem am_lk {f g : List Str} (h : Lk f g) (ps : List Str) : am ps f = am ps g := by
  unfold am
  congr 1
  funext p
  exact h p
theorem cont_app (f : List Str) (k x : Str) : (f ++ [k]).contains x = (f.contains x || (x == k)) := by
  rw [List.contains_eq_any_beq, List.any_append, ← List.contains_eq_any_beq]
  simp
theorem lk_step {f g : List Str} (h : Lk f g) (k : Kd) : Lk (if (!f.contains k.k && k.ms.any fun m => am m.ps f) = true then f ++ [k.k] else f) (if (k.ms.any fun m => am m.ps g) = true then g ++ [k.k] else g) := by
  have e : (k.ms.any fun m => am m.ps f) = (k.ms.any fun m => am m.ps g) := by
    congr 1
    funext m
    exact am_lk h m.ps
  rw [e]
  intro x
  cases c : (k.ms.any fun m => am m.ps g) with
  | false => simp only [Bool.and_false, Bool.false_eq_true, if_false]; exact h x
  | true =>
    simp only [Bool.and_true, if_true]
    rw [cont_app, ← h x]
    cases d : f.contains k.k with
    | true =>
      simp only [Bool.not_true, Bool.false_eq_true, if_false]
      by_cases y : x = k.k
      · subst y; rw [d]; rfl
      · rw [beq_eq_false_iff_ne.mpr y, Bool.or_false]
    | false => simp only [Bool.not_false, if_true]; rw [cont_app]
theorem lk1 : ∀ (ks : List Kd) {f g : List Str}, Lk f g → Lk (th1 f ks) (tl1 g ks)
  | [], _, _, h => h
  | k :: r, _, _, h => lk1 r (lk_step h k)
theorem lkN (ks : List Kd) : ∀ (j : Nat) {f g : List Str}, Lk f g → Lk (thN ks j f) (tlN ks j g)
  | 0, _, _, h => h
  | j + 1, _, _, h => lkN ks j (lk1 ks h)
theorem ek_lk {f g : List Str} (h : Lk f g) : ∀ (ks : List Kd) (i : Nat), ek f i ks = ek g i ks
  | [], _ => rfl
  | k :: r, i => by
    show (if f.contains k.k = true then ek f (i + 1) r else some i) = (if g.contains k.k = true then ek g (i + 1) r else some i)
    rw [h k.k, ek_lk h r]
/-! a part that isn't there -/
def abs' (ks : List Kd) (p : Str) : Bool := !decide (p = ("truth" : Str)) && !(ks.map Kd.k).contains p
theorem am_thr (ks : List Kd) (ps : List Str) : (ps.filter (abs' ks)).isEmpty = am ps (thr ks) := by
  induction ps with
  | nil => rfl
  | cons p r ih =>
    have e : am (p :: r) (thr ks) = ((thr ks).contains p && am r (thr ks)) := rfl
    rw [e, ← ih]
    have e2 : (thr ks).contains p = (decide (p = "truth") || (ks.map Kd.k).contains p) := by
      show (("truth" : Str) :: ks.map Kd.k).contains p = _
      rw [List.contains_cons]
      congr 1
    rw [e2]
    cases a : decide (p = ("truth" : Str)) with
    | true => rw [List.filter_cons_of_neg (by unfold abs'; rw [a]; simp)]; rfl
    | false =>
      cases b : (ks.map Kd.k).contains p with
      | true => rw [List.filter_cons_of_neg (by unfold abs'; rw [a, b]; decide)]; rfl
      | false => rw [List.filter_cons_of_pos (by unfold abs'; rw [a, b]; decide)]; rfl
end Sh


set_option Elab.async false
set_option linter.all false
set_option maxRecDepth 100000
namespace Sh
open PySem L2 Nf
theorem ne_str' {x y : Str} : fNe (.str x) (.str y) = some (.bl (!decide (x = y))) := rfl
/-! the law's wrong kinds, loop by loop -/
theorem l6_loop {K : D} {n : Nat} {x4 x5 x6 x7 x8 x9 x10 x11 x12 x13 : Option D} {names : List Str} : ∀ (ks : List Kd) (pre : List Str) (x2 x3 : Option D), names = pre ++ ks.map Kd.k → names.length ≤ 1000 → ∃ fl, fM (gT (gsC (gN 2) (gsC (gN 3) gsN))) l6_wrong_kinds (enD pre.length ((ks.map Kd.k).map .str)) [some K, some (.lst (names.map .str)), x2, x3, x4, x5, x6, x7, x8, x9, x10, x11, x12, x13] n = some (fl, n) ∧
    match rk pre.length pre ks with
    | some j => fl = .ret (.tup [.str "kind", .int (j : Nat)])
    | none => ∃ y2 y3, fl = .next [some K, some (.lst (names.map .str)), y2, y3, x4, x5, x6, x7, x8, x9, x10, x11, x12, x13]
  | [], pre, x2, x3, _, _ => ⟨_, rfl, _, _, rfl⟩
  | k :: r, pre, x2, x3, hn, hl => by
    have g : (gT (gsC (gN 2) (gsC (gN 3) gsN))) (.tup [.int (pre.length : Nat), .str k.k]) [some K, some (.lst (names.map .str)), x2, x3, x4, x5, x6, x7, x8, x9, x10, x11, x12, x13] = some [some K, some (.lst (names.map .str)), some (.int (pre.length : Nat)), some (.str k.k), x4, x5, x6, x7, x8, x9, x10, x11, x12, x13] := rfl
    have sl : eSl (eVar 1) (fun _ => Mp none) (pSome (eVar 2)) [some K, some (.lst (names.map .str)), some (.int (pre.length : Nat)), some (.str k.k), x4, x5, x6, x7, x8, x9, x10, x11, x12, x13] n = some (.lst (pre.map .str), n) := by
      show Mo (some (D.lst (cutD (names.map .str) none (some ((pre.length : Nat) : Int))))) n = _
      have : cutD (names.map D.str) none (some ((pre.length : Nat) : Int)) = pre.map D.str := by
        show ((names.map D.str).drop 0).take (HT.sIx (names.map D.str).length (names.map D.str).length (some ((pre.length : Nat) : Int)) - 0) = _
        rw [HT.sIx_nat, List.drop_zero, Nat.sub_zero, hn, List.map_append, Nat.min_eq_left (by simp), List.take_left' (by simp)]
      rw [this]; rfl
    have t : trB (e2 fInD (eVar 3) (eSl (eVar 1) (fun _ => Mp none) (pSome (eVar 2)))) [some K, some (.lst (names.map .str)), some (.int (pre.length : Nat)), some (.str k.k), x4, x5, x6, x7, x8, x9, x10, x11, x12, x13] n = some (pre.contains k.k, n) := trB_e (e2_e (eVar_e rfl) sl in_l) rfl
    by_cases c : pre.contains k.k = true
    · rw [c] at t
      have e : rk pre.length pre (k :: r) = some pre.length := if_pos c
      rw [e]
      exact ⟨_, fM_ret g (by unfold l6_wrong_kinds; exact (sIf_t t).trans (sRet_r (eTup_e (aCons_e rfl (aCons_e (eVar_e rfl) aNil_e))))), rfl⟩
    · rw [Bool.eq_false_iff.mpr c] at t
      obtain ⟨fl, h1, h2⟩ := l6_loop (K := K) (n := n) (x4 := x4) (x5 := x5) (x6 := x6) (x7 := x7) (x8 := x8) (x9 := x9) (x10 := x10) (x11 := x11) (x12 := x12) (x13 := x13) (names := names) r (pre ++ [k.k]) (some (.int (pre.length : Nat))) (some (.str k.k)) (by rw [hn]; simp) hl
      have e : rk pre.length pre (k :: r) = rk (pre.length + 1) (pre ++ [k.k]) r := if_neg c
      rw [e]
      rw [List.length_append, List.length_singleton] at h1 h2
      exact ⟨fl, (fM_next g (by unfold l6_wrong_kinds; exact (sIf_f t).trans rfl)).trans h1, h2⟩
section
variable {ks : List Kd}
theorem l4_loop {K : D} {n : Nat} {i : Nat} {x3 x5 x10 x11 x12 : Option D} : ∀ (ms : List Mk) (j : Nat) (kn : List Str) (x6 x7 x8 x9 : Option D), ms.length + kn.length ≤ 1000 → (∀ m ∈ ms, m.ps.length ≤ 3 ∧ ∀ p ∈ m.ps, okS p) → ∃ fl, fM (gT (gsC (gN 6) (gsC (gT (gsC (gN 7) (gsC (gN 8) gsN))) gsN))) l4_wrong_kinds (enD j (ms.map Mk.d)) [some K, some (.lst ((ks.map Kd.k).map .str)), some (.int (i : Nat)), x3, some (.lst (kn.map .str)), x5, x6, x7, x8, x9, x10, x11, x12, none] n = some (fl, n) ∧
    match wmI (thr ks) j kn ms with
    | .inl j' => fl = .ret (.tup [.str "maker", .int (i : Nat), .int (j' : Nat)])
    | .inr kn' => ∃ y6 y7 y8 y9, fl = .next [some K, some (.lst ((ks.map Kd.k).map .str)), some (.int (i : Nat)), x3, some (.lst (kn'.map .str)), x5, y6, y7, y8, y9, x10, x11, x12, none]
  | [], j, kn, x6, x7, x8, x9, _, _ => ⟨_, rfl, _, _, _, _, rfl⟩
  | m :: r, j, kn, x6, x7, x8, x9, h, hm => by
    obtain ⟨hp3, hok⟩ := hm m (by simp)
    have g : (gT (gsC (gN 6) (gsC (gT (gsC (gN 7) (gsC (gN 8) gsN))) gsN))) (.tup [.int (j : Nat), m.d]) [some K, some (.lst ((ks.map Kd.k).map .str)), some (.int (i : Nat)), x3, some (.lst (kn.map .str)), x5, x6, x7, x8, x9, x10, x11, x12, none] = some [some K, some (.lst ((ks.map Kd.k).map .str)), some (.int (i : Nat)), x3, some (.lst (kn.map .str)), x5, some (.int (j : Nat)), some (.str m.w), some (.tup (m.ps.map .str)), x9, x10, x11, x12, none] := rfl
    have w9 : eLc (iSeq (eVar 8)) (gN 13) (tAn (trB (e2 fNe (eVar 13) (eC (.str ("truth" : Str))))) (trB (e2 fNotInD (eVar 13) (eVar 1)))) (eVar 13) [13] [some K, some (.lst ((ks.map Kd.k).map .str)), some (.int (i : Nat)), x3, some (.lst (kn.map .str)), x5, some (.int (j : Nat)), some (.str m.w), some (.tup (m.ps.map .str)), x9, x10, x11, x12, none] n = some (.lst ((m.ps.filter (abs' ks)).map .str), n) := by
      refine eLc_e (iSeq_e (eVar_e rfl) (items_tup (by rw [List.length_map]; omega))) (lcM_flt (f := D.str) (h := D.str) (p := abs' ks) m.ps fun p _ => ⟨_, rfl, ?_, eVar_e rfl⟩)
      have t1 : ∀ ρ : Sd, ρ[13]? = some (some (.str p)) → trB (e2 fNe (eVar 13) (eC (.str ("truth" : Str)))) ρ n = some (!decide (p = ("truth" : Str)), n) := fun ρ h => trB_e (e2_e (eVar_e h) rfl ne_str') rfl
      have t2 : ∀ ρ : Sd, ρ[13]? = some (some (.str p)) → ρ[1]? = some (some (.lst ((ks.map Kd.k).map .str))) → trB (e2 fNotInD (eVar 13) (eVar 1)) ρ n = some (!(ks.map Kd.k).contains p, n) := fun ρ h h' => trB_e (e2_e (eVar_e h) (eVar_e h') notin_l) rfl
      unfold abs'
      cases c : (!decide (p = ("truth" : Str))) with
      | true => exact (tAn_t ((t1 _ rfl).trans (by rw [c]))).trans ((t2 _ rfl rfl).trans (by rw [Bool.true_and]))
      | false => exact (tAn_f ((t1 _ rfl).trans (by rw [c]))).trans (by rw [Bool.false_and])
    obtain ⟨qs, q1, q2, q3⟩ := strs_ok (m.ps.filter (abs' ks)) fun x hx => hok x (List.mem_filter.mp hx).1
    have t : tOr' (trB (e2 fInD (eVar 7) (eVar 4))) (trB (e2 fNe (eVar 9) (eLst aNil))) [some K, some (.lst ((ks.map Kd.k).map .str)), some (.int (i : Nat)), x3, some (.lst (kn.map .str)), x5, some (.int (j : Nat)), some (.str m.w), some (.tup (m.ps.map .str)), some (.lst ((m.ps.filter (abs' ks)).map .str)), x10, x11, x12, none] n = some (kn.contains m.w || !am m.ps (thr ks), n) := by
      have t1 : trB (e2 fInD (eVar 7) (eVar 4)) [some K, some (.lst ((ks.map Kd.k).map .str)), some (.int (i : Nat)), x3, some (.lst (kn.map .str)), x5, some (.int (j : Nat)), some (.str m.w), some (.tup (m.ps.map .str)), some (.lst ((m.ps.filter (abs' ks)).map .str)), x10, x11, x12, none] n = some (kn.contains m.w, n) := trB_e (e2_e (eVar_e rfl) (eVar_e rfl) in_l) rfl
      have ee : ((m.ps.filter (abs' ks)).map D.str).isEmpty = am m.ps (thr ks) := by rw [← am_thr, List.isEmpty_map]
      have t2 : trB (e2 fNe (eVar 9) (eLst aNil)) [some K, some (.lst ((ks.map Kd.k).map .str)), some (.int (i : Nat)), x3, some (.lst (kn.map .str)), x5, some (.int (j : Nat)), some (.str m.w), some (.tup (m.ps.map .str)), some (.lst ((m.ps.filter (abs' ks)).map .str)), x10, x11, x12, none] n = some (!am m.ps (thr ks), n) := by
        rw [← ee]
        exact trB_e (e2_e (eVar_e rfl) (eLst_e aNil_e) (ne_nil q1 q2 q3)) rfl
      cases c : kn.contains m.w with
      | true => rw [c] at t1; exact tOr_t t1
      | false => rw [c] at t1; exact (tOr_f t1).trans t2
    by_cases c : (kn.contains m.w || !am m.ps (thr ks)) = true
    · rw [c] at t
      refine ⟨_, fM_ret g (by unfold l4_wrong_kinds; exact (bSeq_n (sSet_n w9)).trans (bSeq_r ((sIf_t t).trans (sRet_r (eTup_e (aCons_e rfl (aCons_e (eVar_e rfl) (aCons_e (eVar_e rfl) aNil_e)))))))), ?_⟩
      have e : wmI (thr ks) j kn (m :: r) = .inl j := if_pos c
      rw [e]
    · rw [Bool.eq_false_iff.mpr c] at t
      obtain ⟨fl, h1, h2⟩ := l4_loop (K := K) (n := n) (i := i) (x3 := x3) (x5 := x5) (x10 := x10) (x11 := x11) (x12 := x12) r (j + 1) (kn ++ [m.w]) (some (.int (j : Nat))) (some (.str m.w)) (some (.tup (m.ps.map .str))) (some (.lst ((m.ps.filter (abs' ks)).map .str))) (by simp at h ⊢; omega) fun q hq => hm q (by simp [hq])
      have e : wmI (thr ks) j kn (m :: r) = wmI (thr ks) (j + 1) (kn ++ [m.w]) r := if_neg c
      rw [e]
      refine ⟨fl, ?_, h2⟩
      rw [List.map_append] at h1
      exact (fM_next g (by unfold l4_wrong_kinds; exact (bSeq_n (sSet_n w9)).trans ((bSeq_n ((sIf_f t).trans rfl)).trans (sApp_n rfl (eVar_e rfl) (by rw [List.length_map]; simp at h; omega))))).trans h1
theorem l5_loop {K : D} {n : Nat} {x10 x11 x12 : Option D} : ∀ (qs : List Kd) (i : Nat) (kn : List Str) (x2 x3 x5 x6 x7 x8 x9 : Option D), 4 * qs.length + kn.length ≤ 1000 → (∀ k ∈ qs, k.ms.length ≤ 4 ∧ ∀ m ∈ k.ms, m.ps.length ≤ 3 ∧ ∀ p ∈ m.ps, okS p) → ∃ fl, fM (gT (gsC (gN 2) (gsC (gN 5) gsN))) l5_wrong_kinds (enD i (qs.map Kd.d)) [some K, some (.lst ((ks.map Kd.k).map .str)), x2, x3, some (.lst (kn.map .str)), x5, x6, x7, x8, x9, x10, x11, x12, none] n = some (fl, n) ∧
    match wmO (thr ks) i kn qs with
    | some (i', j') => fl = .ret (.tup [.str "maker", .int (i' : Nat), .int (j' : Nat)])
    | none => ∃ (kn' : List Str) (y2 y5 y6 y7 y8 y9 : Option D), fl = .next [some K, some (.lst ((ks.map Kd.k).map .str)), y2, x3, some (.lst (kn'.map .str)), y5, y6, y7, y8, y9, x10, x11, x12, none]
  | [], i, kn, x2, x3, x5, x6, x7, x8, x9, _, _ => ⟨_, rfl, kn, _, _, _, _, _, _, rfl⟩
  | k :: r, i, kn, x2, x3, x5, x6, x7, x8, x9, h, hk => by
    obtain ⟨h4, h3⟩ := hk k (by simp)
    have g : (gT (gsC (gN 2) (gsC (gN 5) gsN))) (.tup [.int (i : Nat), k.d]) [some K, some (.lst ((ks.map Kd.k).map .str)), x2, x3, some (.lst (kn.map .str)), x5, x6, x7, x8, x9, x10, x11, x12, none] = some [some K, some (.lst ((ks.map Kd.k).map .str)), some (.int (i : Nat)), x3, some (.lst (kn.map .str)), some k.d, x6, x7, x8, x9, x10, x11, x12, none] := rfl
    obtain ⟨fl, h1, h2⟩ := l4_loop (ks := ks) (K := K) (n := n) (i := i) (x3 := x3) (x5 := some k.d) (x10 := x10) (x11 := x11) (x12 := x12) k.ms 0 kn x6 x7 x8 x9 (by simp at h; omega) h3
    have hb : l5_wrong_kinds [some K, some (.lst ((ks.map Kd.k).map .str)), some (.int (i : Nat)), x3, some (.lst (kn.map .str)), some k.d, x6, x7, x8, x9, x10, x11, x12, none] n = some (fl, n) := by
      unfold l5_wrong_kinds
      exact (sFor_i (i1_e (e2_e (eVar_e rfl) rfl (z := .tup (k.ms.map Mk.d)) rfl) (enum_tup (by rw [List.length_map]; omega)))).trans h1
    have e : wmO (thr ks) i kn (k :: r) = match wmI (thr ks) 0 kn k.ms with
      | .inl j => some (i, j)
      | .inr kn' => wmO (thr ks) (i + 1) kn' r := rfl
    rw [e]
    cases c : wmI (thr ks) 0 kn k.ms with
    | inl j =>
      rw [c] at h2
      subst h2
      exact ⟨_, fM_ret g hb, rfl⟩
    | inr kn' =>
      rw [c] at h2
      obtain ⟨y6, y7, y8, y9, rfl⟩ := h2
      have hl := wmI_len c
      obtain ⟨fl, h3, h4⟩ := l5_loop (K := K) (n := n) (x10 := x10) (x11 := x11) (x12 := x12) r (i + 1) kn' (some (.int (i : Nat))) x3 (some k.d) y6 y7 y8 y9 (by simp at h; omega) fun q hq => hk q (by simp [hq])
      exact ⟨fl, (fM_next g hb).trans h3, h4⟩
end
end Sh


set_option Elab.async false
set_option linter.all false
set_option maxRecDepth 100000
namespace Sh
open PySem L2 Nf
theorem l2_loop {K : D} {n : Nat} {x1 x2 x4 x5 x6 x7 x8 x9 x11 : Option D} (h7 : True) : ∀ (qs : List Kd) (f : List Str) (x3 x12 : Option D), qs.length + f.length ≤ 1000 → (∀ k ∈ qs, k.ms.length ≤ 4 ∧ ∀ m ∈ k.ms, m.ps.length ≤ 3) → ∃ y3 y12, fM (gT (gsC (gN 3) (gsC (gN 12) gsN))) l2_wrong_kinds (qs.map Kd.d) [some K, x1, x2, x3, x4, x5, x6, x7, x8, x9, some (.lst (f.map .str)), x11, x12, none] n = some (.next [some K, x1, x2, y3, x4, x5, x6, x7, x8, x9, some (.lst ((tl1 f qs).map .str)), x11, y12, none], n)
  | [], f, x3, x12, _, _ => ⟨x3, x12, rfl⟩
  | k :: r, f, x3, x12, h, hk => by
    obtain ⟨h4, h3⟩ := hk k (by simp)
    have g : (gT (gsC (gN 3) (gsC (gN 12) gsN))) k.d [some K, x1, x2, x3, x4, x5, x6, x7, x8, x9, some (.lst (f.map .str)), x11, x12, none] = some [some K, x1, x2, some (.str k.k), x4, x5, x6, x7, x8, x9, some (.lst (f.map .str)), x11, some (.tup (k.ms.map Mk.d)), none] := rfl
    have w : eLc (iSeq (eVar 12)) (gT (gsC (gN 7) (gsC (gN 8) gsN))) (trB (eF (f1 fAll) (aCons (eLc (iSeq (eVar 8)) (gN 13) tY (e2 fInD (eVar 13) (eVar 10)) [13]) aNil))) (eC (.int 1)) [7, 8] [some K, x1, x2, some (.str k.k), x4, x5, x6, x7, x8, x9, some (.lst (f.map .str)), x11, some (.tup (k.ms.map Mk.d)), none] n = some (.lst ((k.ms.filter fun m => am m.ps f).map fun _ => .int 1), n) := by
      refine eLc_e (iSeq_e (eVar_e rfl) (items_tup (by rw [List.length_map]; omega))) (lcM_flt (f := Mk.d) (h := fun _ => .int 1) (p := fun m => am m.ps f) k.ms fun m hm => ⟨_, rfl, ?_, rfl⟩)
      exact trB_e (all_e (fd := D.str) (xs := m.ps) (p := fun p => f.contains p) (iSeq_e (eVar_e rfl) (items_tup (by have := h3 m hm; rw [List.length_map]; omega))) fun x hx => ⟨_, rfl, e2_e (eVar_e rfl) (eVar_e rfl) in_l⟩) rfl
    obtain ⟨ps, q1, q2, q3⟩ := ones_ok (k.ms.filter fun m => am m.ps f)
    have ee : (!((k.ms.filter fun m => am m.ps f).map fun _ => D.int 1).isEmpty) = (k.ms.any fun m => am m.ps f) := by
      rw [List.isEmpty_map]
      cases c : (k.ms.any fun m => am m.ps f) with
      | true =>
        obtain ⟨m, hm, hp⟩ := List.any_eq_true.mp c
        cases e : k.ms.filter fun m => am m.ps f with
        | nil => exact absurd (List.filter_eq_nil_iff.mp e m hm) (by rw [hp]; simp)
        | cons _ _ => rfl
      | false =>
        have : k.ms.filter (fun m => am m.ps f) = [] := List.filter_eq_nil_iff.mpr fun m hm hp => by
          rw [List.any_eq_true.mpr ⟨m, hm, hp⟩] at c; cases c
        rw [this]; rfl
    have t : trB (e2 fNe (eLc (iSeq (eVar 12)) (gT (gsC (gN 7) (gsC (gN 8) gsN))) (trB (eF (f1 fAll) (aCons (eLc (iSeq (eVar 8)) (gN 13) tY (e2 fInD (eVar 13) (eVar 10)) [13]) aNil))) (eC (.int 1)) [7, 8]) (eLst aNil)) [some K, x1, x2, some (.str k.k), x4, x5, x6, x7, x8, x9, some (.lst (f.map .str)), x11, some (.tup (k.ms.map Mk.d)), none] n = some (k.ms.any fun m => am m.ps f, n) := by
      rw [← ee]
      exact trB_e (e2_e w (eLst_e aNil_e) (ne_nil q1 q2 q3)) rfl
    by_cases c : (k.ms.any fun m => am m.ps f) = true
    · rw [c] at t
      obtain ⟨y3, y12, h5⟩ := l2_loop (K := K) (n := n) (x1 := x1) (x2 := x2) (x4 := x4) (x5 := x5) (x6 := x6) (x7 := x7) (x8 := x8) (x9 := x9) (x11 := x11) h7 r (f ++ [k.k]) (some (.str k.k)) (some (.tup (k.ms.map Mk.d))) (by simp at h ⊢; omega) fun q hq => hk q (by simp [hq])
      have e : tl1 f (k :: r) = tl1 (f ++ [k.k]) r := by show tl1 (if _ then _ else _) r = _; rw [if_pos c]
      rw [e]
      refine ⟨y3, y12, ?_⟩
      rw [List.map_append] at h5
      exact (fM_next g (by unfold l2_wrong_kinds; exact (sIf_t t).trans (sApp_n rfl (eVar_e rfl) (by rw [List.length_map]; simp at h; omega)))).trans h5
    · rw [Bool.eq_false_iff.mpr c] at t
      obtain ⟨y3, y12, h5⟩ := l2_loop (K := K) (n := n) (x1 := x1) (x2 := x2) (x4 := x4) (x5 := x5) (x6 := x6) (x7 := x7) (x8 := x8) (x9 := x9) (x11 := x11) h7 r f (some (.str k.k)) (some (.tup (k.ms.map Mk.d))) (by simp at h ⊢; omega) fun q hq => hk q (by simp [hq])
      have e : tl1 f (k :: r) = tl1 f r := by show tl1 (if _ then _ else _) r = _; rw [if_neg c]
      rw [e]
      exact ⟨y3, y12, (fM_next g (by unfold l2_wrong_kinds; exact (sIf_f t).trans rfl)).trans h5⟩
theorem tl1_len : ∀ (ks : List Kd) (f : List Str), (tl1 f ks).length ≤ f.length + ks.length
  | [], _ => Nat.le_refl _
  | k :: r, f => by
    have := tl1_len r (if (k.ms.any fun m => am m.ps f) = true then f ++ [k.k] else f)
    show (tl1 _ r).length ≤ _
    have h2 : (if (k.ms.any fun m => am m.ps f) = true then f ++ [k.k] else f).length ≤ f.length + 1 := by split <;> simp
    simp only [List.length_cons]; omega
theorem tlN_snoc (ks : List Kd) : ∀ (j : Nat) (f : List Str), tlN ks (j + 1) f = tl1 (tlN ks j f) ks
  | 0, _ => rfl
  | j + 1, f => tlN_snoc ks j (tl1 f ks)
theorem l1_loop {K : D} {f : List Str} {n : Nat} {x1 x4 x5 x6 x7 x8 x9 x11 x12 x13 : Option D} : ∀ (qs : List Kd) (i : Nat) (x2 x3 : Option D), ∃ fl, fM (gT (gsC (gN 2) (gsC (gN 3) gsN))) l1_wrong_kinds (enD i ((qs.map Kd.k).map .str)) [some K, x1, x2, x3, x4, x5, x6, x7, x8, x9, some (.lst (f.map .str)), x11, x12, x13] n = some (fl, n) ∧
    match ek f i qs with
    | some j => fl = .ret (.tup [.str "empty", .int (j : Nat)])
    | none => ∃ ρ, fl = .next ρ
  | [], i, x2, x3 => ⟨_, rfl, _, rfl⟩
  | k :: r, i, x2, x3 => by
    have g : (gT (gsC (gN 2) (gsC (gN 3) gsN))) (.tup [.int (i : Nat), .str k.k]) [some K, x1, x2, x3, x4, x5, x6, x7, x8, x9, some (.lst (f.map .str)), x11, x12, x13] = some [some K, x1, some (.int (i : Nat)), some (.str k.k), x4, x5, x6, x7, x8, x9, some (.lst (f.map .str)), x11, x12, x13] := rfl
    have t : trB (e2 fNotInD (eVar 3) (eVar 10)) [some K, x1, some (.int (i : Nat)), some (.str k.k), x4, x5, x6, x7, x8, x9, some (.lst (f.map .str)), x11, x12, x13] n = some (!f.contains k.k, n) := trB_e (e2_e (eVar_e rfl) (eVar_e rfl) notin_l) rfl
    by_cases c : f.contains k.k = true
    · rw [c] at t
      obtain ⟨fl, h1, h2⟩ := l1_loop (K := K) (f := f) (n := n) (x1 := x1) (x4 := x4) (x5 := x5) (x6 := x6) (x7 := x7) (x8 := x8) (x9 := x9) (x11 := x11) (x12 := x12) (x13 := x13) r (i + 1) (some (.int (i : Nat))) (some (.str k.k))
      have e : ek f i (k :: r) = ek f (i + 1) r := if_pos c
      rw [e]
      exact ⟨fl, (fM_next g (by unfold l1_wrong_kinds; exact (sIf_f t).trans rfl)).trans h1, h2⟩
    · rw [Bool.eq_false_iff.mpr c] at t
      have e : ek f i (k :: r) = some i := if_neg c
      rw [e]
      exact ⟨_, fM_ret g (by unfold l1_wrong_kinds; exact (sIf_t t).trans (sRet_r (eTup_e (aCons_e rfl (aCons_e (eVar_e rfl) aNil_e))))), rfl⟩
def F_wk : List D → M D := fnA 1 14 b_wrong_kinds
/-- the first wrong place of kinds -/
def wkD (ks : List Kd) : D := match rk 0 [] ks with
  | some i => .tup [.str "kind", .int (i : Nat)]
  | none => match wmO (thr ks) 0 ["yes", "no"] ks with
    | some (i, j) => .tup [.str "maker", .int (i : Nat), .int (j : Nat)]
    | none => plc "empty" (ek (thN ks ks.length ["truth"]) 0 ks)
theorem enum_lst {xs : List D} (h : xs.length ≤ 1000000) : fEnum (.lst xs) = some (enD 0 xs) := by
  show szl xs.length _ = _
  unfold szl
  rw [if_pos (by rw [PySem.sizeLine_eq]; omega)]
theorem wk_f {ks : List Kd} {n : Nat} (h : Sm4 ks) (hok : ∀ k ∈ ks, ∀ m ∈ k.ms, ∀ p ∈ m.ps, okS p) : F_wk [.tup (ks.map Kd.d)] n = some (wkD ks, n) := by
  have h4 := h.1
  refine fn_ret rfl ?_
  show b_wrong_kinds [some (.tup (ks.map Kd.d)), none, none, none, none, none, none, none, none, none, none, none, none, none] n = _
  unfold b_wrong_kinds
  have e1 : eLc (iSeq (eVar 0)) (gN 5) tY (e2 fDG (eVar 5) (eC (.int 0))) [5] [some (.tup (ks.map Kd.d)), none, none, none, none, none, none, none, none, none, none, none, none, none] n = some (.lst ((ks.map Kd.k).map .str), n) := by
    rw [List.map_map]
    exact eLc_e (iSeq_e (eVar_e rfl) (items_tup (by rw [List.length_map]; omega))) (lcM_map (h := fun k => .str k.k) ks fun k hk => ⟨_, rfl, e2_e (eVar_e rfl) rfl rfl⟩)
  refine (bSeq_n (sSet_n e1)).trans ?_
  obtain ⟨fl, a1, a2⟩ := l6_loop (K := .tup (ks.map Kd.d)) (n := n) (x4 := none) (x5 := none) (x6 := none) (x7 := none) (x8 := none) (x9 := none) (x10 := none) (x11 := none) (x12 := none) (x13 := none) (names := ks.map Kd.k) ks [] none none rfl (by rw [List.length_map]; omega)
  have aF : sFor (i1 fEnum (eVar 1)) (gT (gsC (gN 2) (gsC (gN 3) gsN))) l6_wrong_kinds [some (.tup (ks.map Kd.d)), some (.lst ((ks.map Kd.k).map .str)), none, none, none, none, none, none, none, none, none, none, none, none] n = some (fl, n) := (sFor_i (i1_e (eVar_e rfl) (enum_lst (by simp; omega)))).trans a1
  unfold wkD
  cases c1 : rk 0 [] ks with
  | some i =>
    have a2' : fl = .ret (.tup [.str "kind", .int (i : Nat)]) := by rw [show ([] : List Str).length = 0 from rfl, c1] at a2; exact a2
    subst a2'
    exact bSeq_r aF
  | none =>
    rw [show ([] : List Str).length = 0 from rfl, c1] at a2
    obtain ⟨y2, y3, rfl⟩ := a2
    refine (bSeq_n aF).trans ((bSeq_n (sSet_n (d := .lst ((["yes", "no"] : List Str).map .str)) rfl)).trans ?_)
    obtain ⟨fl, b1, b2⟩ := l5_loop (ks := ks) (K := .tup (ks.map Kd.d)) (n := n) (x10 := none) (x11 := none) (x12 := none) ks 0 ["yes", "no"] y2 y3 none none none none none (by simp; omega) fun k hk => ⟨(h.2 k hk).1, fun m hm => ⟨(h.2 k hk).2 m hm, hok k hk m hm⟩⟩
    have bF : sFor (i1 fEnum (eVar 0)) (gT (gsC (gN 2) (gsC (gN 5) gsN))) l5_wrong_kinds [some (.tup (ks.map Kd.d)), some (.lst ((ks.map Kd.k).map .str)), y2, y3, some (.lst ((["yes", "no"] : List Str).map .str)), none, none, none, none, none, none, none, none, none] n = some (fl, n) := (sFor_i (i1_e (eVar_e rfl) (enum_tup (by rw [List.length_map]; omega)))).trans b1
    cases c2 : wmO (thr ks) 0 ["yes", "no"] ks with
    | some p =>
      obtain ⟨i, j⟩ := p
      rw [c2] at b2
      subst b2
      exact bSeq_r bF
    | none =>
      rw [c2] at b2
      obtain ⟨kn', y2', y5, y6, y7, y8, y9, rfl⟩ := b2
      refine (bSeq_n bF).trans ((bSeq_n (sSet_n (d := .lst ((["truth"] : List Str).map .str)) rfl)).trans ?_)
      have hl : ∀ j, (tlN ks j ["truth"]).length ≤ 1 + j * ks.length := fun j => by
        induction j with
        | zero => simp [tlN]
        | succ j ih =>
          rw [tlN_snoc]
          have := tl1_len ks (tlN ks j ["truth"])
          rw [Nat.succ_mul]; omega
      obtain ⟨ρ', m', g1, z3, z11, z12, rfl, hm⟩ := fM_inv (g := gN 11) (b := l3_wrong_kinds) (fun i ρ m => ∃ z3 z11 z12 : Option D, ρ = [some (.tup (ks.map Kd.d)), some (.lst ((ks.map Kd.k).map .str)), y2', z3, some (.lst (kn'.map .str)), y5, y6, y7, y8, y9, some (.lst ((tlN ks i ["truth"]).map .str)), z11, z12, none] ∧ m = n) (ks.map Kd.d) 0
        [some (.tup (ks.map Kd.d)), some (.lst ((ks.map Kd.k).map .str)), y2', y3, some (.lst (kn'.map .str)), y5, y6, y7, y8, y9, some (.lst ((["truth"] : List Str).map .str)), none, none, none] n ⟨y3, none, none, rfl, rfl⟩ (by
          rintro j d ρ m hj ⟨z3, z11, z12, rfl, rfl⟩
          have hjr : j < ks.length := by have := (List.getElem?_eq_some_iff.mp hj).1; rwa [List.length_map] at this
          have hz := hl (0 + j)
          have h16 : (0 + j) * ks.length ≤ 4 * 4 := Nat.mul_le_mul (by omega) h4
          obtain ⟨u3, u12, e⟩ := l2_loop (K := .tup (ks.map Kd.d)) (n := m) (x1 := some (.lst ((ks.map Kd.k).map .str))) (x2 := y2') (x4 := some (.lst (kn'.map .str))) (x5 := y5) (x6 := y6) (x7 := y7) (x8 := y8) (x9 := y9) (x11 := some d) True.intro ks (tlN ks (0 + j) ["truth"]) z3 z12 (by omega) h.2
          refine ⟨_, _, m, rfl, ?_, u3, some d, u12, rfl, rfl⟩
          rw [tlN_snoc]
          unfold l3_wrong_kinds
          exact (sFor_i (iSeq_e (eVar_e rfl) (items_tup (by rw [List.length_map]; omega)))).trans e)
      rw [List.length_map, Nat.zero_add, hm] at g1
      refine (bSeq_n ((sFor_i (iSeq_e (eVar_e rfl) (items_tup (by rw [List.length_map]; omega)))).trans g1)).trans ?_
      obtain ⟨fl, k1, k2⟩ := l1_loop (K := .tup (ks.map Kd.d)) (f := tlN ks ks.length ["truth"]) (n := n) (x1 := some (.lst ((ks.map Kd.k).map .str))) (x4 := some (.lst (kn'.map .str))) (x5 := y5) (x6 := y6) (x7 := y7) (x8 := y8) (x9 := y9) (x11 := z11) (x12 := z12) (x13 := none) ks 0 y2' z3
      have kF : sFor (i1 fEnum (eVar 1)) (gT (gsC (gN 2) (gsC (gN 3) gsN))) l1_wrong_kinds [some (.tup (ks.map Kd.d)), some (.lst ((ks.map Kd.k).map .str)), y2', z3, some (.lst (kn'.map .str)), y5, y6, y7, y8, y9, some (.lst ((tlN ks ks.length ["truth"]).map .str)), z11, z12, none] n = some (fl, n) := (sFor_i (i1_e (eVar_e rfl) (enum_lst (by simp; omega)))).trans k1
      rw [← ek_lk (lkN ks ks.length (f := ["truth"]) (g := ["truth"]) fun _ => rfl)] at k2
      cases c3 : ek (thN ks ks.length ["truth"]) 0 ks with
      | none =>
        rw [c3] at k2
        obtain ⟨ρ, rfl⟩ := k2
        exact (bSeq_n kF).trans (sRet_r rfl)
      | some j =>
        rw [c3] at k2
        subst k2
        exact bSeq_r kF
end Sh


set_option Elab.async false
set_option linter.all false
set_option maxRecDepth 100000
namespace Sh
open PySem L2 Nf
theorem sPut_n {i : Nat} {tk tv : Ed} {ρ : Sd} {n m m' : Nat} {ks : List Key} {vs : List D} {y d : D} {k : Key} (hv : tv ρ n = some (d, m)) (hl : ρ[i]? = some (some (.dk ks vs))) (hk : tk ρ m = some (y, m')) (ek : keyD y = some k) (hz : ks.length ≤ 1000) : sPut i tk tv ρ n = some (.next (ρ.set i (some (.dk (putD (ks, vs) k d).1 (putD (ks, vs) k d).2))), m') := by
  unfold sPut Mb
  rw [hv]
  simp only [eVar_e hl, hk]
  rw [if_pos (by rw [PySem.sizeLine_eq]; omega)]
  simp only [Mo, ek, Option.map_some, Mp]
theorem putD_len (a : List Key × List D) (k : Key) (d : D) : (putD a k d).1.length ≤ a.1.length + 1 := by
  unfold putD
  split
  · exact Nat.le_succ _
  · rw [List.length_append]; exact Nat.le_refl _
def sgE (kind : Str) (m : Mk) : D := .tup [.str "made", .tup (m.ps.map .str), .str kind]
def sgM (kind : Str) : List Key × List D → List Mk → List Key × List D
  | a, [] => a
  | a, m :: r => sgM kind (putD a (.inr m.w) (sgE kind m)) r
def sgK : List Key × List D → List Kd → List Key × List D
  | a, [] => a
  | a, k :: r => sgK (sgM k.k a k.ms) r
theorem sgM_len {kind : Str} : ∀ (ms : List Mk) (a : List Key × List D), (sgM kind a ms).1.length ≤ a.1.length + ms.length
  | [], _ => Nat.le_refl _
  | m :: r, a => by
    have := sgM_len r (kind := kind) (putD a (.inr m.w) (sgE kind m))
    have h2 := putD_len a (.inr m.w) (sgE kind m)
    show (sgM kind _ r).1.length ≤ _
    simp only [List.length_cons]; omega
theorem sgM_loop {K : D} {x1 x4 x7 x8 x9 : Option D} {kind : Str} {n : Nat} : ∀ (ms : List Mk) (a : List Key × List D) (x5 x6 : Option D), ms.length + a.1.length ≤ 1000 → ∃ y5 y6, fM (gT (gsC (gN 5) (gsC (gN 6) gsN))) l2_signs_of (ms.map Mk.d) [some K, x1, some (.dk a.1 a.2), some (.str kind), x4, x5, x6, x7, x8, x9] n = some (.next [some K, x1, some (.dk (sgM kind a ms).1 (sgM kind a ms).2), some (.str kind), x4, y5, y6, x7, x8, x9], n)
  | [], a, x5, x6, _ => ⟨x5, x6, rfl⟩
  | m :: r, a, x5, x6, h => by
    have g : (gT (gsC (gN 5) (gsC (gN 6) gsN))) m.d [some K, x1, some (.dk a.1 a.2), some (.str kind), x4, x5, x6, x7, x8, x9] = some [some K, x1, some (.dk a.1 a.2), some (.str kind), x4, some (.str m.w), some (.tup (m.ps.map .str)), x7, x8, x9] := rfl
    have h2 := putD_len a (.inr m.w) (sgE kind m)
    obtain ⟨y5, y6, e⟩ := sgM_loop (K := K) (x1 := x1) (x4 := x4) (x7 := x7) (x8 := x8) (x9 := x9) (kind := kind) (n := n) r (putD a (.inr m.w) (sgE kind m)) (some (.str m.w)) (some (.tup (m.ps.map .str))) (by simp at h ⊢; omega)
    refine ⟨y5, y6, (fM_next g (by unfold l2_signs_of; exact sPut_n (d := sgE kind m) (eTup_e (aCons_e rfl (aCons_e (eVar_e rfl) (aCons_e (eVar_e rfl) aNil_e)))) rfl (eVar_e rfl) rfl (by simp at h; omega))).trans e⟩
theorem sgK_loop {K : D} {x1 x7 x8 x9 : Option D} {n : Nat} : ∀ (ks : List Kd) (a : List Key × List D) (x3 x4 x5 x6 : Option D), 4 * ks.length + a.1.length ≤ 1000 → (∀ k ∈ ks, k.ms.length ≤ 4) → ∃ y3 y4 y5 y6, fM (gT (gsC (gN 3) (gsC (gN 4) gsN))) l3_signs_of (ks.map Kd.d) [some K, x1, some (.dk a.1 a.2), x3, x4, x5, x6, x7, x8, x9] n = some (.next [some K, x1, some (.dk (sgK a ks).1 (sgK a ks).2), y3, y4, y5, y6, x7, x8, x9], n)
  | [], a, x3, x4, x5, x6, _, _ => ⟨x3, x4, x5, x6, rfl⟩
  | k :: r, a, x3, x4, x5, x6, h, hk => by
    have h4 := hk k (by simp)
    have g : (gT (gsC (gN 3) (gsC (gN 4) gsN))) k.d [some K, x1, some (.dk a.1 a.2), x3, x4, x5, x6, x7, x8, x9] = some [some K, x1, some (.dk a.1 a.2), some (.str k.k), some (.tup (k.ms.map Mk.d)), x5, x6, x7, x8, x9] := rfl
    obtain ⟨y5, y6, e⟩ := sgM_loop (K := K) (x1 := x1) (x4 := some (.tup (k.ms.map Mk.d))) (x7 := x7) (x8 := x8) (x9 := x9) (kind := k.k) (n := n) k.ms a x5 x6 (by simp at h; omega)
    have h2 := sgM_len (kind := k.k) k.ms a
    obtain ⟨z3, z4, z5, z6, e2⟩ := sgK_loop (K := K) (x1 := x1) (x7 := x7) (x8 := x8) (x9 := x9) (n := n) r (sgM k.k a k.ms) (some (.str k.k)) (some (.tup (k.ms.map Mk.d))) y5 y6 (by simp at h; omega) fun q hq => hk q (by simp [hq])
    exact ⟨z3, z4, z5, z6, (fM_next g (by unfold l3_signs_of; exact (sFor_i (iSeq_e (eVar_e rfl) (items_tup (by rw [List.length_map]; omega)))).trans e)).trans e2⟩
def sg0 : List Key × List D := ([.inr "yes", .inr "no"], [.tup [.str "made", .tup [], .str "truth"], .tup [.str "made", .tup [], .str "truth"]])
def F_sg : List D → M D := fnA 2 10 b_signs_of
theorem sg_first {K F : D} {n : Nat} : eDc (iSeq (eC k_TRUTH_MAKERS)) (gT (gsC (gN 5) (gsC (gN 6) gsN))) tY (eVar 5) (eTup (aCons (eC (.str ("made" : Str))) (aCons (eVar 6) (aCons (eC k_TRUTH) aNil)))) [5, 6] [some K, some F, none, none, none, none, none, none, none, none] n = some (.dk sg0.1 sg0.2, n) := by kernel_rfl
theorem sg_f {ks : List Kd} {n : Nat} (h : Sm4 ks) : F_sg [.tup (ks.map Kd.d), .tup []] n = some (.dk (sgK sg0 ks).1 (sgK sg0 ks).2, n) := by
  have h4 := h.1
  obtain ⟨y3, y4, y5, y6, e⟩ := sgK_loop (K := .tup (ks.map Kd.d)) (x1 := some (.tup [])) (x7 := none) (x8 := none) (x9 := none) (n := n) ks sg0 none none none none (by show 4 * ks.length + 2 ≤ 1000; omega) fun k hk => (h.2 k hk).1
  refine fn_ret rfl ?_
  show b_signs_of [some (.tup (ks.map Kd.d)), some (.tup []), none, none, none, none, none, none, none, none] n = _
  unfold b_signs_of
  exact (bSeq_n (sSet_n sg_first)).trans ((bSeq_n ((sFor_i (iSeq_e (eVar_e rfl) (items_tup (by rw [List.length_map]; omega)))).trans e)).trans ((bSeq_n ((sFor_i (iSeq_e (eVar_e rfl) (items_tup (by simp)))).trans fM_nil)).trans (sRet_r (eVar_e rfl))))
end Sh


set_option Elab.async false
set_option linter.all false
set_option maxRecDepth 100000
namespace Sh
open PySem L2 Nf
/-! no functions -/
theorem KsIn.sm {ks : List Kd} (h : KsIn ks) : Sm4 ks := ⟨h.1, fun k hk => ⟨(h.2 k hk).2.2.1, fun m hm => ((h.2 k hk).2.2.2 m hm).2.1⟩⟩
def F_pf (c_ff : List D → M D) : List D → M D := fnA 2 3 (b_is_program_form c_ff F_kf F_row)
theorem pf_f {c_ff : List D → M D} {ks : List Kd} {fs : List D} {n : Nat} (h : KsIn ks) (hl : fs.length ≤ 6) (hf : ∀ f ∈ fs, c_ff [f] n = some (.bl true, n)) : F_pf c_ff [.tup (ks.map Kd.d), .tup fs] n = some (.bl true, n) := by
  have h4 := h.1
  refine fn_ret rfl ?_
  show b_is_program_form c_ff F_kf F_row [some (.tup (ks.map Kd.d)), some (.tup fs), none] n = _
  unfold b_is_program_form
  have r1 : trB (eCall F_row (aCons (eVar 0) (aCons (eC (.int 0)) (aCons (eC k_MOST_KINDS) aNil)))) [some (.tup (ks.map Kd.d)), some (.tup fs), none] n = some (true, n) := trB_e (x := .bl true) (eCall_e (aCons_e (eVar_e rfl) (aCons_e rfl (aCons_e rfl aNil_e))) ((row_f (ds := ks.map Kd.d) (lo := 0) (hi := 4)).trans (by
    rw [List.length_map, decide_eq_true (show (0 : Int) ≤ (ks.length : Int) by omega), decide_eq_true (show (ks.length : Int) ≤ 4 by omega)]; rfl))) rfl
  have r2 : trB (eCall F_row (aCons (eVar 1) (aCons (eC (.int 0)) (aCons (eC k_MOST_FUNCTIONS) aNil)))) [some (.tup (ks.map Kd.d)), some (.tup fs), none] n = some (true, n) := trB_e (x := .bl true) (eCall_e (aCons_e (eVar_e rfl) (aCons_e rfl (aCons_e rfl aNil_e))) ((row_f (ds := fs) (lo := 0) (hi := 6)).trans (by
    rw [decide_eq_true (show (0 : Int) ≤ (fs.length : Int) by omega), decide_eq_true (show (fs.length : Int) ≤ 6 by omega)]; rfl))) rfl
  refine (bSeq_n ((sIf_f ((tOr_f (tNt_e r1)).trans (tNt_e r2))).trans rfl)).trans (sRet_r ((vAn_t (x := .bl true) (m := n) ?_ rfl).trans ?_))
  · refine (all_e (fd := Kd.d) (xs := ks) (p := fun _ => true) (iSeq_e (eVar_e rfl) (items_tup (by rw [List.length_map]; omega))) fun k hk => ⟨_, rfl, eCall_e (aCons_e (eVar_e rfl) aNil_e) (kf_f (h.2 k hk))⟩).trans ?_
    rw [all_yes]
  · have hi : iSeq (eVar 1) [some (.tup (ks.map Kd.d)), some (.tup fs), none] n = some (fs.map fun d => d, n) := by
      rw [List.map_id']
      exact iSeq_e (eVar_e rfl) (items_tup (by omega))
    refine (all_e (g := gN 2) (vs := [2]) (te := eCall c_ff (aCons (eVar 2) aNil)) (fd := fun d : D => d) (xs := fs) (p := fun _ => true) hi fun f hf' => ⟨_, rfl, eCall_e (aCons_e (eVar_e rfl) aNil_e) (hf f hf')⟩).trans ?_
    rw [all_yes]
theorem keysOk_put {a : List Key × List D} {k : Key} {d : D} (h : keysOk a.1 = true) (hk : keyOk k = true) : keysOk (putD a k d).1 = true := by
  unfold putD
  split
  · exact h
  · unfold keysOk at h ⊢
    rw [List.all_append, h]
    simp [hk]
theorem mws_len : ∀ x ∈ mws, keyOk (.inr x) = true := by
  intro x hx
  simp only [mws, List.mem_cons, List.not_mem_nil, or_false] at hx
  rcases hx with rfl | rfl | rfl | rfl | rfl | rfl | rfl | rfl | rfl | rfl | rfl | rfl | rfl | rfl | rfl | rfl | rfl <;> decide +kernel
theorem keysOk_M {kind : Str} : ∀ (ms : List Mk) (a : List Key × List D), keysOk a.1 = true → (∀ m ∈ ms, m.w ∈ mws) → keysOk (sgM kind a ms).1 = true
  | [], _, h, _ => h
  | m :: r, _, h, hm => keysOk_M r _ (keysOk_put h (mws_len _ (hm m (by simp)))) fun q hq => hm q (by simp [hq])
theorem keysOk_K : ∀ (ks : List Kd) (a : List Key × List D), keysOk a.1 = true → (∀ k ∈ ks, ∀ m ∈ k.ms, m.w ∈ mws) → keysOk (sgK a ks).1 = true
  | [], _, h, _ => h
  | k :: r, _, h, hm => keysOk_K r _ (keysOk_M k.ms _ h (hm k (by simp))) fun q hq => hm q (by simp [hq])
theorem keysOk_sg {ks : List Kd} (h : KsIn ks) : keysOk (sgK sg0 ks).1 = true := keysOk_K ks sg0 (by decide +kernel) fun k hk m hm => ((h.2 k hk).2.2.2 m hm).1
def F_wf : List D → M D := fnA 2 9 (b_wrong_function F_am F_sg F_kt)
theorem wf_nil {ks : List Kd} {n : Nat} (h : KsIn ks) : F_wf [.tup (ks.map Kd.d), .tup []] n = some (.non, n) := by
  refine fn_ret rfl ?_
  show b_wrong_function F_am F_sg F_kt [some (.tup (ks.map Kd.d)), some (.tup []), none, none, none, none, none, none, none] n = _
  unfold b_wrong_function
  exact (bSeq_n (sSet_n (eCall_e (aCons_e (eVar_e rfl) aNil_e) (kt_f h.1)))).trans ((bSeq_n (sSet_n (eF_e (aCons_e (eCall_e (aCons_e (eVar_e rfl) (aCons_e (eTup_e aNil_e) aNil_e)) (sg_f h.sm)) aNil_e) (if_pos (keysOk_sg h))))).trans ((bSeq_n ((sFor_i (i1_e (eVar_e rfl) (enum_tup (by simp)))).trans fM_nil)).trans (sRet_r rfl)))
def F_wr (c_ws : List D → M D) : List D → M D := fnA 2 13 (b_wrong_rule c_ws F_sg)
theorem wr_nil {c_ws : List D → M D} {ks : List Kd} {n : Nat} (h : KsIn ks) : F_wr c_ws [.tup (ks.map Kd.d), .tup []] n = some (.non, n) := by
  refine fn_ret rfl ?_
  show b_wrong_rule c_ws F_sg [some (.tup (ks.map Kd.d)), some (.tup []), none, none, none, none, none, none, none, none, none, none, none] n = _
  unfold b_wrong_rule
  exact (bSeq_n (sSet_n (eCall_e (aCons_e (eVar_e rfl) (aCons_e (eVar_e rfl) aNil_e)) (sg_f h.sm)))).trans ((bSeq_n ((sFor_i (i1_e (eVar_e rfl) (enum_tup (by simp)))).trans fM_nil)).trans (sRet_r rfl))
def F_fwp (c_ff c_ws : List D → M D) : List D → M D := fnA 2 3 (b_first_wrong_place (F_wr c_ws) F_wf F_ek F_wm F_rk (F_pf c_ff))
/-- kinds first, then what functions tell -/
theorem fwp_f {c_ff c_ws : List D → M D} {ks : List Kd} {fs : List D} {n : Nat} {r : D} (h : KsIn ks) (hl : fs.length ≤ 6) (hf : ∀ f ∈ fs, c_ff [f] n = some (.bl true, n))
    (hr : wkD ks = .non → (∃ d, F_wf [.tup (ks.map Kd.d), .tup fs] n = some (d, n) ∧ ((isNon d = false ∧ r = d) ∨ (d = .non ∧ F_wr c_ws [.tup (ks.map Kd.d), .tup fs] n = some (r, n))))) (hr' : wkD ks ≠ .non → r = wkD ks) :
    F_fwp c_ff c_ws [.tup (ks.map Kd.d), .tup fs] n = some (r, n) := by
  refine fn_ret rfl ?_
  show b_first_wrong_place (F_wr c_ws) F_wf F_ek F_wm F_rk (F_pf c_ff) [some (.tup (ks.map Kd.d)), some (.tup fs), none] n = _
  unfold b_first_wrong_place
  have isn : ∀ (d : D) , trB (e2 fIs (eVar 2) (eC .non)) [some (.tup (ks.map Kd.d)), some (.tup fs), some d] n = some (isNon d, n) := fun d => trB_e (x := .bl (isNon d)) (e2_e (eVar_e rfl) rfl rfl) rfl
  refine (bSeq_n ((sIf_f (tNt_e (b := true) (trB_e (eCall_e (aCons_e (eVar_e rfl) (aCons_e (eVar_e rfl) aNil_e)) (pf_f h hl hf)) rfl))).trans rfl)).trans ((bSeq_n (sSet_n (eCall_e (aCons_e (eVar_e rfl) aNil_e) (rk_f h.1)))).trans ?_)
  have skip : ∀ (d : D) (c : List D → M D) (a : Ad) (u : Bd), isNon d = false → bSeq (sIf (trB (e2 fIs (eVar 2) (eC .non))) (sSet 2 (eCall c a)) bNil) u [some (.tup (ks.map Kd.d)), some (.tup fs), some d] n = u [some (.tup (ks.map Kd.d)), some (.tup fs), some d] n := fun d c a u hd => bSeq_n ((sIf_f ((isn d).trans (by rw [hd]))).trans rfl)
  have take : ∀ (e : D) (c : List D → M D) (a : Ad) (u : Bd), eCall c a [some (.tup (ks.map Kd.d)), some (.tup fs), some .non] n = some (e, n) → bSeq (sIf (trB (e2 fIs (eVar 2) (eC .non))) (sSet 2 (eCall c a)) bNil) u [some (.tup (ks.map Kd.d)), some (.tup fs), some .non] n = u [some (.tup (ks.map Kd.d)), some (.tup fs), some e] n := fun e c a u he => bSeq_n ((sIf_t (isn .non)).trans (sSet_n he))
  have fin : ∀ d : D, isNon d = false → r = d → sRet (eVar 2) [some (.tup (ks.map Kd.d)), some (.tup fs), some d] n = some (.ret r, n) := fun d _ e => by rw [e]; exact sRet_r (eVar_e rfl)
  have ekd : wkD ks = match rk 0 [] ks with
    | some i => .tup [.str "kind", .int (i : Nat)]
    | none => match wmO (thr ks) 0 ["yes", "no"] ks with
      | some (i, j) => .tup [.str "maker", .int (i : Nat), .int (j : Nat)]
      | none => plc "empty" (ek (thN ks ks.length ["truth"]) 0 ks) := rfl
  cases c1 : rk 0 [] ks with
  | some i =>
    rw [c1] at ekd
    have e := hr' (by rw [ekd]; exact fun z => nomatch z)
    rw [ekd] at e
    exact (skip _ _ _ _ rfl).trans ((skip _ _ _ _ rfl).trans ((skip _ _ _ _ rfl).trans ((skip _ _ _ _ rfl).trans (fin _ rfl e))))
  | none =>
    rw [c1] at ekd
    refine (take _ _ _ _ (eCall_e (aCons_e (eVar_e rfl) aNil_e) (wm_f h.1 h.sm.2))).trans ?_
    cases c2 : wmO (thr ks) 0 ["yes", "no"] ks with
    | some p =>
      obtain ⟨i, j⟩ := p
      rw [c2] at ekd
      have e := hr' (by rw [ekd]; exact fun z => nomatch z)
      rw [ekd] at e
      exact (skip _ _ _ _ rfl).trans ((skip _ _ _ _ rfl).trans ((skip _ _ _ _ rfl).trans (fin _ rfl e)))
    | none =>
      rw [c2] at ekd
      refine (take _ _ _ _ (eCall_e (aCons_e (eVar_e rfl) aNil_e) (ek_f h.sm))).trans ?_
      cases c3 : ek (thN ks ks.length ["truth"]) 0 ks with
      | some j =>
        rw [c3] at ekd
        have e := hr' (by rw [ekd]; exact fun z => nomatch z)
        rw [ekd] at e
        exact (skip _ _ _ _ rfl).trans ((skip _ _ _ _ rfl).trans (fin _ rfl e))
      | none =>
        rw [c3] at ekd
        obtain ⟨d, hd, q⟩ := hr ekd
        refine (take d _ _ _ (eCall_e (aCons_e (eVar_e rfl) (aCons_e (eVar_e rfl) aNil_e)) hd)).trans ?_
        rcases q with ⟨hn, e⟩ | ⟨rfl, e⟩
        · exact (skip _ _ _ _ hn).trans (fin _ hn e)
        · exact (take r _ _ _ (eCall_e (aCons_e (eVar_e rfl) (aCons_e (eVar_e rfl) aNil_e)) e)).trans (sRet_r (eVar_e rfl))
theorem fwp_nil {c_ff c_ws : List D → M D} {ks : List Kd} {n : Nat} (h : KsIn ks) : F_fwp c_ff c_ws [.tup (ks.map Kd.d), .tup []] n = some (wkD ks, n) :=
  fwp_f h (by simp) (fun f hf => nomatch hf) (fun e => ⟨.non, wf_nil h, .inr ⟨rfl, by rw [e]; exact wr_nil h⟩⟩) fun _ => rfl
end Sh


set_option Elab.async false
set_option linter.all false
set_option maxRecDepth 100000
namespace Sh
open PySem L2 Nf
def F_no : List D → M D := fun _ _ => none
def F_nd : List D → M D := fnA 1 2 (b_is_node F_word F_no)
def F_po : List D → M D := fnA 1 1 b_parts_of
def F_sz : List D → M D := fnA 2 7 (b_is_sized F_po F_nd)
def F_ns : List D → M D := fnA 1 8 (b_nodes_of F_po)
def F_nm : List D → M D := fnA 1 4 (b_names_of F_ns)
def F_wr' : List D → M D := fnA 2 3 (b_is_written F_nm F_word F_sz)
def F_rf : List D → M D := fnA 1 2 (b_is_rule_form F_wr' F_row)
def F_ff : List D → M D := fnA 1 2 (b_is_function_form F_rf F_row F_kn F_kns F_word)
def rgt (m : Str) : D := .tup [.str "made", .str m, .tup []]
def rul (m : Str) : D := .tup [.tup [], rgt m]
def fun1 (k m : Str) : D := .tup [.str "first", .tup [], .str k, .tup [rul m]]
theorem rf_f : ∀ m ∈ mws, ∀ n, F_rf [rul m] n = some (.bl true, n) := by
  intro x hx n
  simp only [mws, List.mem_cons, List.not_mem_nil, or_false] at hx
  rcases hx with rfl | rfl | rfl | rfl | rfl | rfl | rfl | rfl | rfl | rfl | rfl | rfl | rfl | rfl | rfl | rfl | rfl <;> kernel_rfl
theorem ff_f {k m : Str} {n : Nat} (hk : k ∈ nws) (hm : m ∈ mws) : F_ff [fun1 k m] n = some (.bl true, n) := by
  refine fn_ret rfl ?_
  show b_is_function_form F_rf F_row F_kn F_kns F_word [some (fun1 k m), none] n = _
  unfold b_is_function_form
  have w1 : F_word [.str "first"] n = some (.bl true, n) := word_at _ (by simp [words]) n
  have a1 := kns_f (ps := []) (n := n) (by simp) (by simp)
  refine (bSeq_n ((sIf_f ((tOr_f (tNt_e (b := true) (trB_e (x := .bl true) (eCall_e (aCons_e (eVar_e rfl) (aCons_e rfl (aCons_e rfl aNil_e))) (row_f.trans rfl)) rfl))).trans
    ((tOr_f (tNt_e (b := true) (trB_e (eCall_e (aCons_e (e2_e (eVar_e rfl) rfl (z := .str "first") rfl) aNil_e) w1) rfl))).trans
    (tNt_e (b := true) (trB_e (eCall_e (aCons_e (e2_e (eVar_e rfl) rfl (z := .tup []) rfl) aNil_e) a1) rfl))))).trans rfl)).trans ?_
  refine (bSeq_n ((sIf_f ((tOr_f (tNt_e (b := true) (trB_e (eCall_e (aCons_e (e2_e (eVar_e rfl) rfl (z := .str k) rfl) aNil_e) (kn_f (.inl (nws_kws hk)))) rfl))).trans
    (tNt_e (b := true) (trB_e (x := .bl true) (eCall_e (aCons_e (e2_e (eVar_e rfl) rfl (z := .tup [rul m]) rfl) (aCons_e rfl (aCons_e rfl aNil_e))) (row_f.trans rfl)) rfl)))).trans rfl)).trans (sRet_r ((all_e (fd := fun _ : Unit => rul m) (xs := [()]) (p := fun _ => true) (iSeq_e (e2_e (eVar_e rfl) rfl (z := .tup [rul m]) rfl) (items_tup (by simp))) fun _ _ => ⟨_, rfl, eCall_e (aCons_e (eVar_e rfl) aNil_e) (rf_f m hm n)⟩).trans rfl))
/-! the function's own place -/
theorem key_in {kind : Str} : ∀ (ms : List Mk) (a : List Key × List D) (P : Key → Prop), (∀ k ∈ a.1, P k) → (∀ m ∈ ms, P (.inr m.w)) → ∀ k ∈ (sgM kind a ms).1, P k
  | [], _, _, h, _ => h
  | m :: r, a, P, h, hm => key_in r _ P (fun k hk => by
      unfold putD at hk
      split at hk
      · exact h k hk
      · rcases List.mem_append.mp hk with z | z
        · exact h k z
        · rw [List.mem_singleton.mp z]; exact hm m (by simp)) fun q hq => hm q (by simp [hq])
theorem key_inK : ∀ (ks : List Kd) (a : List Key × List D) (P : Key → Prop), (∀ k ∈ a.1, P k) → (∀ q ∈ ks, ∀ m ∈ q.ms, P (.inr m.w)) → ∀ k ∈ (sgK a ks).1, P k
  | [], _, _, h, _ => h
  | q :: r, a, P, h, hm => key_inK r _ P (key_in q.ms a P h (hm q (by simp))) fun t ht => hm t (by simp [ht])
theorem first_mws : ∀ x ∈ mws, x ≠ ("first" : Str) := by
  intro x hx
  simp only [mws, List.mem_cons, List.not_mem_nil, or_false] at hx
  rcases hx with rfl | rfl | rfl | rfl | rfl | rfl | rfl | rfl | rfl | rfl | rfl | rfl | rfl | rfl | rfl | rfl | rfl <;> decide +kernel
theorem first_in {ks : List Kd} (h : KsIn ks) : fInD (.str "first") (.lst ((sgK sg0 ks).1.map dOf)) = some (.bl false) := by
  have hk : ∀ k ∈ (sgK sg0 ks).1, D.flt (dOf k) = true ∧ eqF (dOf k) (.str "first") = false := key_inK ks sg0 _ (by
    intro k hk
    have : k = .inr "yes" ∨ k = .inr "no" := by simpa [sg0] using hk
    rcases this with rfl | rfl
    · exact ⟨rfl, by decide +kernel⟩
    · exact ⟨rfl, by decide +kernel⟩) fun q hq m hm => ⟨rfl, beq_eq_false_iff_ne.mpr (first_mws _ ((h.2 q hq).2.2.2 m hm).1)⟩
  have f1 : ((sgK sg0 ks).1.map dOf).all D.flt = true := by
    rw [List.all_map, List.all_eq_true]
    exact fun k hk' => (hk k hk').1
  have f2 : (((sgK sg0 ks).1.map dOf).any fun y => eqF y (.str "first")) = false := by
    rw [List.any_map, List.any_eq_false]
    exact fun k hk' => by rw [Function.comp_apply, (hk k hk').2]; simp
  show (if _ then some _ else none).map D.bl = _
  rw [if_pos ⟨rfl, f1⟩, f2]; rfl
theorem wf_one {ks : List Kd} {k m : Str} {n : Nat} (h : KsIn ks) (hk : k ∈ ks.map Kd.k) : F_wf [.tup (ks.map Kd.d), .tup [fun1 k m]] n = some (.non, n) := by
  refine fn_ret rfl ?_
  show b_wrong_function F_am F_sg F_kt [some (.tup (ks.map Kd.d)), some (.tup [fun1 k m]), none, none, none, none, none, none, none] n = _
  unfold b_wrong_function
  have hlen : ((sgK sg0 ks).1.map dOf).length < 1000000 := by
    have := keysOk_sg h
    have hl : ∀ (qs : List Kd) (a : List Key × List D), (∀ q ∈ qs, q.ms.length ≤ 4) → (sgK a qs).1.length ≤ a.1.length + 4 * qs.length := by
      intro qs
      induction qs with
      | nil => exact fun a _ => Nat.le_refl _
      | cons q r ih =>
        intro a hq
        have h1 := ih (sgM q.k a q.ms) fun t ht => hq t (by simp [ht])
        have h2 := sgM_len (kind := q.k) q.ms a
        have h3 := hq q (by simp)
        show (sgK (sgM q.k a q.ms) r).1.length ≤ _
        simp only [List.length_cons]; omega
    have h5 := hl ks sg0 fun q hq => (h.2 q hq).2.2.1
    have h6 := h.1
    have h7 : sg0.1.length = 2 := rfl
    rw [List.length_map]; omega
  have am1 : am [k] (thr ks) = true := by
    show ((thr ks).contains k && true) = true
    rw [Bool.and_true]
    show (("truth" : Str) :: ks.map Kd.k).contains k = true
    rw [List.contains_iff_mem]; exact List.mem_cons_of_mem _ hk
  refine (bSeq_n (sSet_n (eCall_e (aCons_e (eVar_e rfl) aNil_e) (kt_f h.1)))).trans ((bSeq_n (sSet_n (eF_e (aCons_e (eCall_e (aCons_e (eVar_e rfl) (aCons_e (eTup_e aNil_e) aNil_e)) (sg_f h.sm)) aNil_e) (if_pos (keysOk_sg h))))).trans ((bSeq_n (ρ' := [some (.tup (ks.map Kd.d)), some (.tup [fun1 k m]), some (.lst ((thr ks).map .str)), some (.lst ((sgK sg0 ks).1.map dOf ++ [.str "first"])), some (.int (0 : Nat)), some (.str "first"), some (.tup []), some (.str k), some (.tup [rul m])]) ((sFor_i (i1_e (eVar_e rfl) (enum_tup (by simp)))).trans ?_)).trans (sRet_r rfl)))
  · refine (fM_next (ρ1 := [some (.tup (ks.map Kd.d)), some (.tup [fun1 k m]), some (.lst ((thr ks).map .str)), some (.lst ((sgK sg0 ks).1.map dOf)), some (.int (0 : Nat)), some (.str "first"), some (.tup []), some (.str k), some (.tup [rul m])]) rfl ?_).trans fM_nil
    unfold l1_wrong_function
    refine (bSeq_n ((sIf_f ((tOr_f (trB_e (e2_e (eVar_e rfl) (eVar_e rfl) (first_in h)) rfl)).trans (tNt_e (b := true) (trB_e (x := .bl true) (eCall_e (aCons_e (d := .tup [.str k]) rfl (aCons_e (eVar_e rfl) aNil_e)) ((am_f (ps := [k]) (by simp)).trans ?_)) rfl)))).trans rfl)).trans (sApp_n rfl (eVar_e rfl) hlen)
    rw [am1]
end Sh


set_option Elab.async false
set_option linter.all false
set_option maxRecDepth 100000
namespace Sh
open PySem L2 Nf
/-! the one rule -/
def F_so : List D → M D := fnA 2 3 b_sign_of
def F_us : List D → M D := fnA 3 4 (b_uses_sign F_so)
def F_ir : List D → M D := fnA 4 4 (b_is_right F_us)
def F_pd : List D → M D := fnA 4 5 (b_parts_due F_no)
def F_be : List D → M D := fnO 2 6 b_below
def F_wp : List D → M D := fnA 4 8 (b_wrong_path F_be F_pd F_ir)
def F_ls : List D → M D := fnA 3 8 (b_left_side F_us F_be)
def F_ho : List D → M D := fnA 1 5 (b_has_overused_name F_ns)
def F_ws : List D → M D := fnA 5 7 (b_wrong_side F_ho F_wp F_ls)
def sgn (k : Str) : D := .tup [.str "made", .tup [], .str k]
theorem eGet_e {ta tb tc : Ed} {ρ : Sd} {n m1 m2 m3 : Nat} {x y z d : D} (ha : ta ρ n = some (x, m1)) (hb : tb ρ m1 = some (y, m2)) (hc : tc ρ m2 = some (z, m3)) (hg : fGet x y z = some d) : eGet ta tb tc ρ n = some (d, m3) := by
  unfold eGet Mb
  rw [ha]
  simp only [hb, hc, Mo, hg, Option.map_some]
section
variable {gs : List Key} {vs : List D} {k m : Str} {n : Nat} (hd : dval gs vs (.inr m) = some (sgn k))
include hd
theorem so_f : F_so [.dk gs vs, rgt m] n = some (sgn k, n) := by
  refine fn_ret rfl ?_
  show b_sign_of [some (.dk gs vs), some (rgt m), none] n = _
  unfold b_sign_of
  have hg : fGet (.dk gs vs) (.str m) .non = some (sgn k) := by
    show some ((dval gs vs (.inr m)).getD .non) = _
    rw [hd]; rfl
  exact (bSeq_n (sSet_n (eGet_e (eVar_e rfl) (e2_e (eVar_e rfl) rfl (z := .str m) rfl) rfl hg))).trans (sRet_r ((vIf_t ((tAn_t (trB_e (x := .bl true) (e2_e (eVar_e rfl) rfl rfl) rfl)).trans (tEq_t (x := "made") (y := "made") (e2_e (eVar_e rfl) rfl rfl) (e2_e (eVar_e rfl) rfl rfl)))).trans (eVar_e rfl)))
theorem us_f : F_us [.dk gs vs, rgt m, .str k] n = some (.bl true, n) := by
  refine fn_ret rfl ?_
  show b_uses_sign F_so [some (.dk gs vs), some (rgt m), some (.str k), none] n = _
  unfold b_uses_sign
  refine (bSeq_n (sSet_n (eCall_e (aCons_e (eVar_e rfl) (aCons_e (eVar_e rfl) aNil_e)) (so_f hd)))).trans (sRet_r ((vAn_t (x := .bl true) (e2_e (eVar_e rfl) rfl rfl) rfl).trans ((vAn_t (x := .bl true) (m := n) (e2_e (e2_e (eVar_e rfl) rfl (z := .str k) rfl) (eVar_e rfl) ?_) rfl).trans (e2_e (z := .bl true) (eF_e (aCons_e (e2_e (eVar_e rfl) rfl (z := .tup []) rfl) aNil_e) rfl) (eF_e (aCons_e (e2_e (eVar_e rfl) rfl (z := .tup []) rfl) aNil_e) rfl) rfl))))
  show some (D.bl (decide (k = k))) = _
  rw [decide_eq_true rfl]
theorem ir_f {ns : D} : F_ir [.dk gs vs, ns, rgt m, .str k] n = some (.bl true, n) := by
  refine fn_ret rfl ?_
  show b_is_right F_us [some (.dk gs vs), some ns, some (rgt m), some (.str k)] n = _
  unfold b_is_right
  have e0 : e2 fDG (eVar 2) (eC (.int 0)) [some (.dk gs vs), some ns, some (rgt m), some (.str k)] n = some (.str "made", n) := e2_e (eVar_e rfl) rfl rfl
  exact (bSeq_n ((sIf_f (tEq_f (x := "made") (y := "name") e0 rfl)).trans rfl)).trans ((bSeq_n ((sIf_f (tEq_f (x := "made") (y := "same") e0 rfl)).trans rfl)).trans (sRet_r ((vOr_f (x := .bl false) (e2_e e0 rfl (by kernel_rfl)) rfl).trans (eCall_e (aCons_e (eVar_e rfl) (aCons_e (eVar_e rfl) (aCons_e (eVar_e rfl) aNil_e))) (us_f hd)))))
theorem pd_f {ns : D} : F_pd [.dk gs vs, ns, rgt m, .str k] n = some (.lst [], n) := by
  refine fn_ret rfl ?_
  show b_parts_due F_no [some (.dk gs vs), some ns, some (rgt m), some (.str k), none] n = _
  unfold b_parts_due
  have e0 : e2 fDG (eVar 2) (eC (.int 0)) [some (.dk gs vs), some ns, some (rgt m), some (.str k), none] n = some (.str "made", n) := e2_e (eVar_e rfl) rfl rfl
  have hg : fDG (.dk gs vs) (.str m) = some (sgn k) := hd
  exact (bSeq_n ((sIf_f (tEq_f (x := "made") (y := "name") e0 rfl)).trans rfl)).trans ((bSeq_n ((sIf_f (tEq_f (x := "made") (y := "either") e0 rfl)).trans rfl)).trans ((bSeq_n ((sIf_f (tEq_f (x := "made") (y := "same") e0 rfl)).trans rfl)).trans
    (sRet_r (e2_e (e2_e (eVar_e rfl) rfl (z := .tup []) rfl) (e2_e (e2_e (eVar_e rfl) (e2_e (eVar_e rfl) rfl (z := .str m) rfl) hg) rfl (z := .tup []) rfl) (by kernel_rfl)))))
end
theorem be_f {n : Nat} : F_be [.tup [], .lst []] n = some (.lst [], n) := by kernel_rfl
theorem wp_f {gs : List Key} {vs : List D} {k m : Str} {n : Nat} (hd : dval gs vs (.inr m) = some (sgn k)) {ns : D} : F_wp [.dk gs vs, ns, rgt m, .str k] n = some (.non, n) := by
  refine fn_ret rfl ?_
  show b_wrong_path F_be F_pd F_ir [some (.dk gs vs), some ns, some (rgt m), some (.str k), none, none, none, none] n = _
  unfold b_wrong_path sWh
  have step : l1_wrong_path F_ir F_be F_pd [some (.dk gs vs), some ns, some (rgt m), some (.str k), some (.lst [.tup [.tup [], rgt m, .str k]]), none, none, none] n = some (.next [some (.dk gs vs), some ns, some (rgt m), some (.str k), some (.lst []), some (.tup []), some (rgt m), some (.str k)], n) := by
    unfold l1_wrong_path
    refine (bSeq_n (sPop_n (xs := []) (d := .tup [.tup [], rgt m, .str k]) rfl rfl)).trans ((bSeq_n ((sIf_f (tNt_e (b := true) (trB_e (eCall_e (aCons_e (eVar_e rfl) (aCons_e (eVar_e rfl) (aCons_e (eVar_e rfl) (aCons_e (eVar_e rfl) aNil_e)))) (ir_f hd)) rfl))).trans rfl)).trans ?_)
    exact sExt_l (xs := []) (ys := []) rfl (eCall_e (aCons_e (eVar_e rfl) (aCons_e (eCall_e (aCons_e (eVar_e rfl) (aCons_e (eVar_e rfl) (aCons_e (eVar_e rfl) (aCons_e (eVar_e rfl) aNil_e)))) (pd_f hd)) aNil_e)) be_f) (by simp)
  refine (bSeq_n (sSet_n (d := .lst [.tup [.tup [], rgt m, .str k]]) (eLst_e (aCons_e (eTup_e (aCons_e (eTup_e aNil_e) (aCons_e (eVar_e rfl) (aCons_e (eVar_e rfl) aNil_e)))) aNil_e)))).trans ?_
  have FUe : FU = (FU - 2) + 1 + 1 := by decide
  rw [FUe]
  refine (bSeq_n ((wM_t (m := n) (trB_e (eVar_e rfl) rfl) step).trans (wM_f (trB_e (eVar_e rfl) rfl)))).trans (sRet_r rfl)
theorem ls_f {S : D} {n : Nat} : F_ls [S, .tup [], .tup []] n = some (.tup [.dk [] [], .non], n) := by
  refine fn_ret rfl ?_
  show b_left_side F_us F_be [some S, some (.tup []), some (.tup []), none, none, none, none, none] n = _
  unfold b_left_side sWh
  refine (bSeq_n (sSet_n rfl)).trans ((bSeq_n (sSet_n (eCall_e (aCons_e (eTup_e aNil_e) (aCons_e (e2_e (eVar_e rfl) (eVar_e rfl) (z := .lst []) (by kernel_rfl)) aNil_e)) be_f))).trans ?_)
  have FUe : FU = (FU - 1) + 1 := by decide
  rw [FUe]
  exact (bSeq_n (wM_f (trB_e (eVar_e rfl) rfl))).trans (sRet_r (eTup_e (aCons_e (eVar_e rfl) (aCons_e rfl aNil_e))))
theorem ho_f : ∀ m ∈ mws, ∀ n, F_ho [rgt m] n = some (.bl false, n) := by
  intro x hx n
  simp only [mws, List.mem_cons, List.not_mem_nil, or_false] at hx
  rcases hx with rfl | rfl | rfl | rfl | rfl | rfl | rfl | rfl | rfl | rfl | rfl | rfl | rfl | rfl | rfl | rfl | rfl <;> kernel_rfl
theorem ws_f {gs : List Key} {vs : List D} {k m : Str} {n : Nat} (hd : dval gs vs (.inr m) = some (sgn k)) (hm : m ∈ mws) : F_ws [.dk gs vs, .tup [], .str k, .tup [], rgt m] n = some (.tup [.non, .non], n) := by
  refine fn_ret rfl ?_
  show b_wrong_side F_ho F_wp F_ls [some (.dk gs vs), some (.tup []), some (.str k), some (.tup []), some (rgt m), none, none] n = _
  unfold b_wrong_side
  exact (bSeq_n ((sIf_f (trB_e (x := .bl false) (e2_e (eF_e (aCons_e (eVar_e rfl) aNil_e) rfl) (eF_e (aCons_e (eVar_e rfl) aNil_e) rfl) rfl) rfl)).trans rfl)).trans ((bSeq_n (sAsg_n (eCall_e (aCons_e (eVar_e rfl) (aCons_e (eVar_e rfl) (aCons_e (eVar_e rfl) aNil_e))) ls_f) rfl)).trans
    ((bSeq_n ((sIf_f (trB_e (x := .bl false) (e2_e (eVar_e rfl) rfl rfl) rfl)).trans rfl)).trans ((bSeq_n (sSet_n (eCall_e (aCons_e (eVar_e rfl) (aCons_e (eVar_e rfl) (aCons_e (eVar_e rfl) (aCons_e (eVar_e rfl) aNil_e)))) (wp_f hd)))).trans
    ((bSeq_n ((sIf_f (trB_e (x := .bl false) (e2_e (eVar_e rfl) rfl rfl) rfl)).trans rfl)).trans ((bSeq_n ((sIf_f (trB_e (eCall_e (aCons_e (eVar_e rfl) aNil_e) (ho_f m hm n)) rfl)).trans rfl)).trans (sRet_r (eTup_e (aCons_e rfl (aCons_e rfl aNil_e)))))))))
end Sh


set_option Elab.async false
set_option linter.all false
set_option maxRecDepth 100000
namespace Sh
open PySem L2 Nf
/-! what a dict holds -/
def Eq2 (a : List Key × List D) : Prop := a.1.length = a.2.length
theorem repl_len : ∀ (ks : List Key) (vs : List D) (k : Key) (d : D), ks.length = vs.length → (repl ks vs k d).length = vs.length
  | [], [], _, _, _ => rfl
  | _ :: ks, _ :: vs, k, d, h => congrArg (· + 1) (repl_len ks vs k d (by simpa using h))
theorem put_eq2 {a : List Key × List D} {k : Key} {d : D} (h : Eq2 a) : Eq2 (putD a k d) := by
  unfold putD Eq2
  split
  · rw [repl_len _ _ _ _ h]; exact h
  · simp only [List.length_append, List.length_singleton]; rw [h]
theorem dval_repl : ∀ (ks : List Key) (vs : List D) (k k' : Key) (d : D), ks.length = vs.length → ks.any (fun q => decide (q = k)) = true → dval ks (repl ks vs k d) k' = if k' = k then some d else dval ks vs k'
  | [], _, _, _, _, _, h => by cases h
  | q :: ks, v :: vs, k, k', d, hl, h => by
    show (if q = k' then some (if q = k then d else v) else dval ks (repl ks vs k d) k') = if k' = k then some d else (if q = k' then some v else dval ks vs k')
    by_cases e1 : q = k'
    · subst e1
      rw [if_pos rfl, if_pos rfl]
      by_cases e2 : q = k
      · rw [if_pos e2, if_pos e2]
      · rw [if_neg e2, if_neg e2]
    · rw [if_neg e1, if_neg e1]
      by_cases h2 : ks.any (fun q => decide (q = k)) = true
      · exact dval_repl ks vs k k' d (by simpa using hl) h2
      · have e2 : q = k := by
          rw [List.any_cons] at h
          rcases Bool.or_eq_true_iff.mp h with z | z
          · exact of_decide_eq_true z
          · exact absurd z h2
        have e3 : ¬ k' = k := fun z => e1 (e2.trans z.symm)
        rw [if_neg e3]
        have : ∀ (ks : List Key) (vs : List D), ks.length = vs.length → ks.any (fun q => decide (q = k)) = false → repl ks vs k d = vs := by
          intro ks
          induction ks with
          | nil => intro vs hl _; cases vs with | nil => rfl | cons _ _ => cases hl
          | cons q r ih =>
            intro vs hl hn
            cases vs with
            | nil => cases hl
            | cons v vs =>
              rw [List.any_cons] at hn
              obtain ⟨n1, n2⟩ := Bool.or_eq_false_iff.mp hn
              show (if q = k then d else v) :: repl r vs k d = _
              rw [if_neg (of_decide_eq_false n1), ih vs (by simpa using hl) n2]
        rw [this ks vs (by simpa using hl) (Bool.eq_false_iff.mpr h2)]
theorem dval_app : ∀ (ks : List Key) (vs : List D) (k k' : Key) (d : D), ks.length = vs.length → ks.any (fun q => decide (q = k)) = false → dval (ks ++ [k]) (vs ++ [d]) k' = if k' = k then some d else dval ks vs k'
  | [], [], k, k', d, _, _ => by
    show (if k = k' then some d else none) = if k' = k then some d else none
    by_cases e : k = k'
    · rw [if_pos e, if_pos e.symm]
    · rw [if_neg e, if_neg (Ne.symm e)]
  | q :: ks, v :: vs, k, k', d, hl, h => by
    rw [List.any_cons] at h
    obtain ⟨n1, n2⟩ := Bool.or_eq_false_iff.mp h
    show (if q = k' then some v else dval (ks ++ [k]) (vs ++ [d]) k') = if k' = k then some d else (if q = k' then some v else dval ks vs k')
    by_cases e1 : q = k'
    · rw [if_pos e1, if_pos e1, if_neg (e1 ▸ of_decide_eq_false n1)]
    · rw [if_neg e1, if_neg e1]
      exact dval_app ks vs k k' d (by simpa using hl) n2
theorem dval_put {a : List Key × List D} {k k' : Key} {d : D} (h : Eq2 a) : dval (putD a k d).1 (putD a k d).2 k' = if k' = k then some d else dval a.1 a.2 k' := by
  unfold putD
  by_cases c : a.1.any (fun q => decide (q = k)) = true
  · rw [if_pos c]; exact dval_repl _ _ _ _ _ h c
  · rw [if_neg c]; exact dval_app _ _ _ _ _ h (Bool.eq_false_iff.mpr c)
theorem sgM_eq2 {kind : Str} : ∀ (ms : List Mk) (a : List Key × List D), Eq2 a → Eq2 (sgM kind a ms)
  | [], _, h => h
  | _ :: r, _, h => sgM_eq2 r _ (put_eq2 h)
theorem sgK_eq2 : ∀ (ks : List Kd) (a : List Key × List D), Eq2 a → Eq2 (sgK a ks)
  | [], _, h => h
  | k :: r, _, h => sgK_eq2 r _ (sgM_eq2 k.ms _ h)
theorem sgM_not {kind w : Str} : ∀ (ms : List Mk) (a : List Key × List D), Eq2 a → (∀ m ∈ ms, m.w ≠ w) → dval (sgM kind a ms).1 (sgM kind a ms).2 (.inr w) = dval a.1 a.2 (.inr w)
  | [], _, _, _ => rfl
  | m :: r, a, h, hm => by
    have ih := sgM_not (kind := kind) (w := w) r (putD a (.inr m.w) (sgE kind m)) (put_eq2 h) fun q hq => hm q (by simp [hq])
    refine ih.trans ?_
    rw [dval_put h, if_neg (fun z => hm m (by simp) (Sum.inr.inj z).symm)]
theorem sgK_not {w : Str} : ∀ (ks : List Kd) (a : List Key × List D), Eq2 a → (∀ k ∈ ks, ∀ m ∈ k.ms, m.w ≠ w) → dval (sgK a ks).1 (sgK a ks).2 (.inr w) = dval a.1 a.2 (.inr w)
  | [], _, _, _ => rfl
  | k :: r, a, h, hm => (sgK_not r (sgM k.k a k.ms) (sgM_eq2 k.ms a h) fun q hq => hm q (by simp [hq])).trans (sgM_not k.ms a h (hm k (by simp)))
theorem wmI_ok {th : List Str} : ∀ {ms : List Mk} {j : Nat} {kn kn' : List Str}, wmI th j kn ms = .inr kn' → kn' = kn ++ ms.map Mk.w ∧ (∀ m ∈ ms, m.w ∉ kn) ∧ (ms.map Mk.w).Nodup
  | [], _, _, _, h => by cases h; simp
  | m :: r, j, kn, kn', h => by
    have h' : (if (kn.contains m.w || !am m.ps th) = true then Sum.inl j else wmI th (j + 1) (kn ++ [m.w]) r) = .inr kn' := h
    by_cases c : (kn.contains m.w || !am m.ps th) = true
    · rw [if_pos c] at h'; cases h'
    · rw [if_neg c] at h'
      obtain ⟨h1, h2, h3⟩ := wmI_ok h'
      have hc : m.w ∉ kn := fun z => c (by rw [List.contains_iff_mem.mpr z]; rfl)
      refine ⟨by rw [h1]; simp, fun q hq => ?_, ?_⟩
      · rcases List.mem_cons.mp hq with rfl | hq
        · exact hc
        · exact fun z => h2 q hq (List.mem_append_left _ z)
      · rw [List.map_cons, List.nodup_cons]
        refine ⟨fun z => ?_, h3⟩
        obtain ⟨q, hq, e⟩ := List.mem_map.mp z
        exact h2 q hq (by rw [e]; simp)
theorem sgM_in {kind : Str} {mk : Mk} : ∀ (ms : List Mk) (a : List Key × List D), Eq2 a → mk ∈ ms → (ms.map Mk.w).Nodup → dval (sgM kind a ms).1 (sgM kind a ms).2 (.inr mk.w) = some (sgE kind mk)
  | m :: r, a, h, hm, hn => by
    rw [List.map_cons, List.nodup_cons] at hn
    rcases List.mem_cons.mp hm with rfl | hm
    · refine (sgM_not r (putD a (.inr mk.w) (sgE kind mk)) (put_eq2 h) fun q hq e => hn.1 (by rw [← (show q.w = mk.w from e)]; exact List.mem_map_of_mem hq)).trans ?_
      rw [dval_put h, if_pos rfl]
    · exact sgM_in r (putD a (.inr m.w) (sgE kind m)) (put_eq2 h) hm hn.2
theorem wmO_not {th : List Str} : ∀ {ks : List Kd} {i : Nat} {kn : List Str}, wmO th i kn ks = none → ∀ k ∈ ks, ∀ m ∈ k.ms, m.w ∉ kn
  | q :: r, i, kn, h, k, hk, m, hm => by
    have h' : (match wmI th 0 kn q.ms with
      | .inl j => some (i, j)
      | .inr kn' => wmO th (i + 1) kn' r) = none := h
    cases c : wmI th 0 kn q.ms with
    | inl j => rw [c] at h'; cases h'
    | inr kn' =>
      rw [c] at h'
      obtain ⟨h1, h2, h3⟩ := wmI_ok c
      rcases List.mem_cons.mp hk with rfl | hk
      · exact h2 m hm
      · exact fun z => wmO_not h' k hk m hm (by rw [h1]; exact List.mem_append_left _ z)
theorem sgK_in {th : List Str} {k : Kd} {mk : Mk} (hm : mk ∈ k.ms) : ∀ (ks : List Kd) (a : List Key × List D) (i : Nat) (kn : List Str), Eq2 a → wmO th i kn ks = none → k ∈ ks → dval (sgK a ks).1 (sgK a ks).2 (.inr mk.w) = some (sgE k.k mk)
  | q :: r, a, i, kn, ha, h, hk => by
    have h' : (match wmI th 0 kn q.ms with
      | .inl j => some (i, j)
      | .inr kn' => wmO th (i + 1) kn' r) = none := h
    cases c : wmI th 0 kn q.ms with
    | inl j => rw [c] at h'; cases h'
    | inr kn' =>
      rw [c] at h'
      obtain ⟨h1, h2, h3⟩ := wmI_ok c
      rcases List.mem_cons.mp hk with rfl | hk
      · refine (sgK_not r (sgM k.k a k.ms) (sgM_eq2 k.ms a ha) fun t ht m' hm' e => wmO_not h' t ht m' hm' ?_).trans (sgM_in k.ms a ha hm h3)
        rw [h1, e]
        exact List.mem_append_right _ (List.mem_map_of_mem hm)
      · exact sgK_in hm r (sgM q.k a q.ms) (i + 1) kn' (sgM_eq2 q.ms a ha) h' hk
end Sh


set_option Elab.async false
set_option linter.all false
set_option maxRecDepth 100000
namespace Sh
open PySem L2 Nf
theorem sgK_len : ∀ (qs : List Kd) (a : List Key × List D), (∀ q ∈ qs, q.ms.length ≤ 4) → (sgK a qs).1.length ≤ a.1.length + 4 * qs.length
  | [], _, _ => Nat.le_refl _
  | q :: r, a, hq => by
    have h1 := sgK_len r (sgM q.k a q.ms) fun t ht => hq t (by simp [ht])
    have h2 := sgM_len (kind := q.k) q.ms a
    have h3 := hq q (by simp)
    show (sgK (sgM q.k a q.ms) r).1.length ≤ _
    simp only [List.length_cons]; omega
def sgF (ks : List Kd) (k : Str) : List Key × List D := putD (sgK sg0 ks) (.inr "first") (.tup [.str "call", .tup [], .str k])
theorem sg_one {ks : List Kd} {k m : Str} {n : Nat} (h : Sm4 ks) : F_sg [.tup (ks.map Kd.d), .tup [fun1 k m]] n = some (.dk (sgF ks k).1 (sgF ks k).2, n) := by
  have h4 := h.1
  have hl := sgK_len ks sg0 fun q hq => (h.2 q hq).1
  have h2 : sg0.1.length = 2 := rfl
  obtain ⟨y3, y4, y5, y6, e⟩ := sgK_loop (K := .tup (ks.map Kd.d)) (x1 := some (.tup [fun1 k m])) (x7 := none) (x8 := none) (x9 := none) (n := n) ks sg0 none none none none (by show 4 * ks.length + 2 ≤ 1000; omega) fun k hk => (h.2 k hk).1
  refine fn_ret rfl ?_
  show b_signs_of [some (.tup (ks.map Kd.d)), some (.tup [fun1 k m]), none, none, none, none, none, none, none, none] n = _
  unfold b_signs_of
  refine (bSeq_n (sSet_n sg_first)).trans ((bSeq_n ((sFor_i (iSeq_e (eVar_e rfl) (items_tup (by rw [List.length_map]; omega)))).trans e)).trans ((bSeq_n (ρ' := [some (.tup (ks.map Kd.d)), some (.tup [fun1 k m]), some (.dk (sgF ks k).1 (sgF ks k).2), some (.str k), y4, y5, y6, some (.str "first"), some (.tup []), some (.tup [rul m])]) ((sFor_i (iSeq_e (eVar_e rfl) (items_tup (by simp)))).trans ?_)).trans (sRet_r (eVar_e rfl))))
  refine (fM_next (ρ1 := [some (.tup (ks.map Kd.d)), some (.tup [fun1 k m]), some (.dk (sgK sg0 ks).1 (sgK sg0 ks).2), some (.str k), y4, y5, y6, some (.str "first"), some (.tup []), some (.tup [rul m])]) rfl ?_).trans fM_nil
  unfold l1_signs_of
  exact sPut_n (d := .tup [.str "call", .tup [], .str k]) (eTup_e (aCons_e rfl (aCons_e (eVar_e rfl) (aCons_e (eVar_e rfl) aNil_e)))) rfl (eVar_e rfl) rfl (by omega)
theorem wr_one {ks : List Kd} {k m : Str} {n : Nat} (h : Sm4 ks) (hm : m ∈ mws) (hd : dval (sgF ks k).1 (sgF ks k).2 (.inr m) = some (sgn k)) : F_wr F_ws [.tup (ks.map Kd.d), .tup [fun1 k m]] n = some (.non, n) := by
  refine fn_ret rfl ?_
  show b_wrong_rule F_ws F_sg [some (.tup (ks.map Kd.d)), some (.tup [fun1 k m]), none, none, none, none, none, none, none, none, none, none, none] n = _
  unfold b_wrong_rule
  have inner : l2_wrong_rule F_ws [some (.tup (ks.map Kd.d)), some (.tup [fun1 k m]), some (.dk (sgF ks k).1 (sgF ks k).2), some (.int (0 : Nat)), some (.str "first"), some (.tup []), some (.str k), some (.tup [rul m]), none, none, none, none, none] n =
      some (.next [some (.tup (ks.map Kd.d)), some (.tup [fun1 k m]), some (.dk (sgF ks k).1 (sgF ks k).2), some (.int (0 : Nat)), some (.str "first"), some (.tup []), some (.str k), some (.tup [rul m]), some (.int (0 : Nat)), some (.tup []), some (rgt m), some .non, some .non], n) := by
    unfold l2_wrong_rule
    refine (sFor_i (i1_e (eVar_e rfl) (enum_tup (by simp)))).trans ((fM_next (ρ1 := [some (.tup (ks.map Kd.d)), some (.tup [fun1 k m]), some (.dk (sgF ks k).1 (sgF ks k).2), some (.int (0 : Nat)), some (.str "first"), some (.tup []), some (.str k), some (.tup [rul m]), some (.int (0 : Nat)), some (.tup []), some (rgt m), none, none]) rfl ?_).trans fM_nil)
    unfold l1_wrong_rule
    exact (bSeq_n (sAsg_n (eCall_e (aCons_e (eVar_e rfl) (aCons_e (eVar_e rfl) (aCons_e (eVar_e rfl) (aCons_e (eVar_e rfl) (aCons_e (eVar_e rfl) aNil_e))))) (ws_f hd hm)) rfl)).trans ((sIf_f (trB_e (x := .bl false) (e2_e (eVar_e rfl) rfl rfl) rfl)).trans rfl)
  refine (bSeq_n (sSet_n (eCall_e (aCons_e (eVar_e rfl) (aCons_e (eVar_e rfl) aNil_e)) (sg_one h)))).trans ((bSeq_n (ρ' := [some (.tup (ks.map Kd.d)), some (.tup [fun1 k m]), some (.dk (sgF ks k).1 (sgF ks k).2), some (.int (0 : Nat)), some (.str "first"), some (.tup []), some (.str k), some (.tup [rul m]), some (.int (0 : Nat)), some (.tup []), some (rgt m), some .non, some .non]) ((sFor_i (i1_e (eVar_e rfl) (enum_tup (by simp)))).trans ?_)).trans (sRet_r rfl))
  exact (fM_next (ρ1 := [some (.tup (ks.map Kd.d)), some (.tup [fun1 k m]), some (.dk (sgF ks k).1 (sgF ks k).2), some (.int (0 : Nat)), some (.str "first"), some (.tup []), some (.str k), some (.tup [rul m]), none, none, none, none, none]) rfl inner).trans fM_nil
theorem wk_wm {ks : List Kd} (h : wkD ks = .non) : wmO (thr ks) 0 ["yes", "no"] ks = none := by
  unfold wkD at h
  cases c1 : rk 0 [] ks with
  | some i => rw [c1] at h; cases h
  | none =>
    rw [c1] at h
    cases c2 : wmO (thr ks) 0 ["yes", "no"] ks with
    | some p => obtain ⟨i, j⟩ := p; rw [c2] at h; cases h
    | none => rfl
/-- with the one function: what the kinds tell -/
theorem fwp_one {ks : List Kd} {q : Kd} {mk : Mk} {n : Nat} (h : KsIn ks) (hq : q ∈ ks) (hm : mk ∈ q.ms) (hp : mk.ps = []) : F_fwp F_ff F_ws [.tup (ks.map Kd.d), .tup [fun1 q.k mk.w]] n = some (wkD ks, n) := by
  have hmw : mk.w ∈ mws := ((h.2 q hq).2.2.2 mk hm).1
  refine fwp_f h (by simp) (fun f hf => by rw [List.mem_singleton.mp hf]; exact ff_f (h.2 q hq).1 hmw) (fun e => ⟨.non, wf_one h (List.mem_map_of_mem hq), .inr ⟨rfl, ?_⟩⟩) fun _ => rfl
  rw [e]
  refine wr_one h.sm hmw ?_
  have e0 : Eq2 sg0 := rfl
  unfold sgF
  rw [dval_put (sgK_eq2 ks sg0 e0), if_neg (fun z => first_mws _ hmw (Sum.inr.inj z)), sgK_in hm ks sg0 0 ["yes", "no"] e0 (wk_wm e) hq]
  unfold sgE sgn
  rw [hp]; rfl
end Sh


set_option Elab.async false
set_option linter.all false
set_option maxRecDepth 100000
namespace Sh
open PySem L2 Nf
theorem eq_nilT {ps : List Str} (h : ∀ p ∈ ps, okS p) : fEq (.tup (ps.map .str)) (.tup []) = some (.bl ps.isEmpty) := by
  obtain ⟨qs, h1, h2, h3⟩ := strs_ok ps h
  have e1 : (D.tup (ps.map .str)).py = some (.tuple qs) := by simp only [D.py, h1, Option.map_some]
  have s1 : SeqAt.shaped (.tuple qs) = true := by
    have d : (PyData.tuple qs).depth ≤ 64 := by simp only [PyData.depth]; omega
    have c : (PyData.tuple qs).canLay0 = true := by simp only [PyData.canLay0]; exact h2
    unfold SeqAt.shaped
    rw [c, decide_eq_true d]; rfl
  unfold fEq
  rw [eqb_tup e1 (show (D.tup []).py = some (.tuple []) from rfl) s1 (by decide +kernel)]
  cases ps with
  | nil => cases h1; rfl
  | cons p r =>
    cases qs with
    | nil =>
      exfalso
      simp only [List.map_cons, D.pyA] at h1
      split at h1 <;> cases h1
    | cons _ _ => rfl
theorem ok_ps {ks : List Kd} (h : KsIn ks) : ∀ k ∈ ks, ∀ m ∈ k.ms, ∀ p ∈ m.ps, okS p := fun k hk m hm p hp => by
  rcases ((h.2 k hk).2.2.2 m hm).2.2 p hp with z | z
  · exact okw p (in_words (.inl z))
  · rw [z]; decide +kernel
def F_fn : List D → M D := fnA 1 5 b_function
theorem fn1_loop {K : D} {k : Str} {x2 : Option D} {n : Nat} : ∀ (ms : List Mk) (x3 x4 : Option D), (∀ m ∈ ms, ∀ p ∈ m.ps, okS p) → ∃ fl, fM (gT (gsC (gN 3) (gsC (gN 4) gsN))) l1_function (ms.map Mk.d) [some K, some (.str k), x2, x3, x4] n = some (fl, n) ∧
    ((∃ mk ∈ ms, mk.ps = [] ∧ fl = .ret (.tup [fun1 k mk.w])) ∨ ∃ y3 y4, fl = .next [some K, some (.str k), x2, y3, y4])
  | [], x3, x4, _ => ⟨_, rfl, .inr ⟨x3, x4, rfl⟩⟩
  | m :: r, x3, x4, h => by
    have g : (gT (gsC (gN 3) (gsC (gN 4) gsN))) m.d [some K, some (.str k), x2, x3, x4] = some [some K, some (.str k), x2, some (.str m.w), some (.tup (m.ps.map .str))] := rfl
    have t : trB (e2 fEq (eVar 4) (eTup aNil)) [some K, some (.str k), x2, some (.str m.w), some (.tup (m.ps.map .str))] n = some (m.ps.isEmpty, n) := trB_e (e2_e (eVar_e rfl) (eTup_e aNil_e) (eq_nilT (h m (by simp)))) rfl
    cases c : m.ps.isEmpty with
    | true =>
      rw [c] at t
      refine ⟨_, fM_ret g (by unfold l1_function; exact (sIf_t t).trans (sRet_r (eTup_e (aCons_e (eTup_e (aCons_e rfl (aCons_e (eTup_e aNil_e) (aCons_e (eVar_e rfl) (aCons_e (eTup_e (aCons_e (eTup_e (aCons_e (eTup_e aNil_e) (aCons_e (eTup_e (aCons_e rfl (aCons_e (eVar_e rfl) (aCons_e (eTup_e aNil_e) aNil_e)))) aNil_e))) aNil_e)) aNil_e))))) aNil_e)))), .inl ⟨m, by simp, List.isEmpty_iff.mp c, rfl⟩⟩
    | false =>
      rw [c] at t
      obtain ⟨fl, h1, h2⟩ := fn1_loop (K := K) (k := k) (x2 := x2) (n := n) r (some (.str m.w)) (some (.tup (m.ps.map .str))) fun q hq => h q (by simp [hq])
      refine ⟨fl, (fM_next g (by unfold l1_function; exact (sIf_f t).trans rfl)).trans h1, ?_⟩
      rcases h2 with ⟨mk, a, b, e⟩ | z
      · exact .inl ⟨mk, by simp [a], b, e⟩
      · exact .inr z
theorem fn2_loop {K : D} {n : Nat} : ∀ (ks : List Kd) (x1 x2 x3 x4 : Option D), (∀ k ∈ ks, k.ms.length ≤ 4 ∧ ∀ m ∈ k.ms, ∀ p ∈ m.ps, okS p) → ∃ fl, fM (gT (gsC (gN 1) (gsC (gN 2) gsN))) l2_function (ks.map Kd.d) [some K, x1, x2, x3, x4] n = some (fl, n) ∧
    ((∃ q ∈ ks, ∃ mk ∈ q.ms, mk.ps = [] ∧ fl = .ret (.tup [fun1 q.k mk.w])) ∨ ∃ ρ, fl = .next ρ)
  | [], x1, x2, x3, x4, _ => ⟨_, rfl, .inr ⟨_, rfl⟩⟩
  | k :: r, x1, x2, x3, x4, h => by
    obtain ⟨h4, hk⟩ := h k (by simp)
    have g : (gT (gsC (gN 1) (gsC (gN 2) gsN))) k.d [some K, x1, x2, x3, x4] = some [some K, some (.str k.k), some (.tup (k.ms.map Mk.d)), x3, x4] := rfl
    obtain ⟨fl, h1, h2⟩ := fn1_loop (K := K) (k := k.k) (x2 := some (.tup (k.ms.map Mk.d))) (n := n) k.ms x3 x4 hk
    have hb : l2_function [some K, some (.str k.k), some (.tup (k.ms.map Mk.d)), x3, x4] n = some (fl, n) := by
      unfold l2_function
      exact (sFor_i (iSeq_e (eVar_e rfl) (items_tup (by rw [List.length_map]; omega)))).trans h1
    rcases h2 with ⟨mk, a, b, rfl⟩ | ⟨y3, y4, rfl⟩
    · exact ⟨_, fM_ret g hb, .inl ⟨k, by simp, mk, a, b, rfl⟩⟩
    · obtain ⟨fl, h3, h5⟩ := fn2_loop (K := K) (n := n) r (some (.str k.k)) (some (.tup (k.ms.map Mk.d))) y3 y4 fun q hq => h q (by simp [hq])
      refine ⟨fl, (fM_next g hb).trans h3, ?_⟩
      rcases h5 with ⟨q, a, z⟩ | z
      · exact .inl ⟨q, by simp [a], z⟩
      · exact .inr z
theorem fn_f {ks : List Kd} {n : Nat} (h : KsIn ks) : ∃ d, F_fn [.tup (ks.map Kd.d)] n = some (d, n) ∧ (d = .tup [] ∨ ∃ q ∈ ks, ∃ mk ∈ q.ms, mk.ps = [] ∧ d = .tup [fun1 q.k mk.w]) := by
  obtain ⟨fl, h1, h2⟩ := fn2_loop (K := .tup (ks.map Kd.d)) (n := n) ks none none none none fun k hk => ⟨(h.2 k hk).2.2.1, ok_ps h k hk⟩
  have hF : sFor (iSeq (eVar 0)) (gT (gsC (gN 1) (gsC (gN 2) gsN))) l2_function [some (.tup (ks.map Kd.d)), none, none, none, none] n = some (fl, n) := (sFor_i (iSeq_e (eVar_e rfl) (items_tup (by have := h.1; rw [List.length_map]; omega)))).trans h1
  rcases h2 with ⟨q, a, mk, b, c, rfl⟩ | ⟨ρ, rfl⟩
  · refine ⟨_, fn_ret rfl ?_, .inr ⟨q, a, mk, b, c, rfl⟩⟩
    show b_function [some (.tup (ks.map Kd.d)), none, none, none, none] n = _
    unfold b_function
    exact bSeq_r hF
  · refine ⟨_, fn_ret rfl ?_, .inl rfl⟩
    show b_function [some (.tup (ks.map Kd.d)), none, none, none, none] n = _
    unfold b_function
    exact (bSeq_n hF).trans (sRet_r (eTup_e aNil_e))
/-- whatever functions the law hands in: the program's first wrong place is the kinds' -/
theorem fwp_law {ks : List Kd} {d : D} {n : Nat} (h : KsIn ks) (hd : d = .tup [] ∨ ∃ q ∈ ks, ∃ mk ∈ q.ms, mk.ps = [] ∧ d = .tup [fun1 q.k mk.w]) : F_fwp F_ff F_ws [.tup (ks.map Kd.d), d] n = some (wkD ks, n) := by
  rcases hd with rfl | ⟨q, a, mk, b, c, rfl⟩
  · exact fwp_nil h
  · exact fwp_one h a b c
end Sh


set_option Elab.async false
set_option linter.all false
set_option maxRecDepth 100000
namespace Sh
open PySem L2 Nf
theorem nx_e {f : Nat → Int} {n : Nat} (h : n < 2 ^ 40) : nxS f [.deck] n = some (.int (f n), n + 1) := if_pos h
theorem mul_i {i j : Int} (h : (-(2 ^ 64) < i ∧ i < 2 ^ 64) ∨ (-(2 ^ 64) < j ∧ j < 2 ^ 64)) : fMul (.int i) (.int j) = some (.int (i * j)) := if_pos h
theorem atI_in {α : Type} {xs : List α} {i : Int} (h0 : 0 ≤ i) (h1 : i < xs.length) : ∃ x, L2.atI xs i = some x ∧ x ∈ xs ∧ xs[i.toNat]? = some x := by
  have hk : i.toNat < xs.length := by omega
  refine ⟨xs[i.toNat], ?_, List.getElem_mem hk, List.getElem?_eq_getElem hk⟩
  unfold L2.atI ixN
  rw [if_pos h0, if_pos h1]
  exact List.getElem?_eq_getElem hk
theorem ix_lst {α : Type} {f : α → D} {xs : List α} {i : Int} (h0 : 0 ≤ i) (h1 : i < xs.length) : ∃ x, fDG (.lst (xs.map f)) (.int i) = some (f x) ∧ x ∈ xs ∧ xs[i.toNat]? = some x := by
  obtain ⟨y, e, m, g⟩ := atI_in (xs := xs.map f) h0 (by rw [List.length_map]; exact h1)
  rw [List.getElem?_map] at g
  obtain ⟨x, hx, rfl⟩ := Option.map_eq_some_iff.mp g
  exact ⟨x, e, List.mem_of_getElem? hx, hx⟩
theorem rngD_get {lo : Int} {k j : Nat} {d : D} (h : (rngD lo k)[j]? = some d) : d = .int (lo + j) ∧ j < k := by
  have hj : j < k := by
    have := (List.getElem?_eq_some_iff.mp h).1
    rwa [rngD_len] at this
  unfold rngD at h
  rw [List.getElem?_map, List.getElem?_range hj] at h
  cases h
  exact ⟨rfl, hj⟩
theorem flat_strs : ∀ ps : List Str, D.flatA (ps.map .str) = true
  | [] => rfl
  | p :: r => by simp only [List.map_cons, D.flatA, D.flat, flat_strs r, Bool.and_self]
section
variable {f : Nat → Int} (hf : ∀ n, 0 ≤ f n ∧ f n < MM)
include hf
theorem dparts {ns : List Str} {x1 x3 x4 x5 x6 x7 x8 x9 x11 x12 x13 x14 : Option D} {n r : Nat} (hns : ns.length ≤ 4) (hk : ∀ x ∈ ns, x ∈ nws) (hr : r ≤ 3) (hn : n + 3 ≤ 2 ^ 40) :
    ∃ (ps : List Str) (y11 y12 y13 : Option D) (m : Nat), fM (gN 11) (l1_drawn_kinds (nxS f)) (rngD 0 r) [some .deck, x1, some (.lst (ns.map .str)), x3, x4, x5, x6, x7, x8, x9, some (.lst []), x11, x12, x13, x14] n = some (.next [some .deck, x1, some (.lst (ns.map .str)), x3, x4, x5, x6, x7, x8, x9, some (.lst (ps.map .str)), y11, y12, y13, x14], m) ∧ m ≤ n + 3 ∧ ps.length = r ∧ ∀ p ∈ ps, p ∈ kws ∨ p = "truth" := by
  obtain ⟨ρ', m, h1, ps, y11, y12, y13, rfl, h2, h3, h4⟩ := fM_inv (g := gN 11) (b := l1_drawn_kinds (nxS f)) (fun i ρ m => ∃ (ps : List Str) (y11 y12 y13 : Option D), ρ = [some .deck, x1, some (.lst (ns.map .str)), x3, x4, x5, x6, x7, x8, x9, some (.lst (ps.map .str)), y11, y12, y13, x14] ∧ m = n + i ∧ ps.length = i ∧ ∀ p ∈ ps, p ∈ kws ∨ p = "truth") (rngD 0 r) 0
    [some .deck, x1, some (.lst (ns.map .str)), x3, x4, x5, x6, x7, x8, x9, some (.lst []), x11, x12, x13, x14] n ⟨[], x11, x12, x13, rfl, rfl, rfl, by simp⟩ (by
      rintro j d ρ m hj ⟨ps, y11, y12, y13, rfl, rfl, hl, hp⟩
      obtain ⟨rfl, hjr⟩ := rngD_get hj
      have hfm := hf (n + (0 + j))
      obtain ⟨b, hb⟩ : ∃ b : Bool, b = decide ((0 : Int) < f (n + (0 + j)) / 16 % 12) := ⟨_, rfl⟩
      have hbz : (0 : Int) ≤ (if b = true then 1 else 0) ∧ (if b = true then (1 : Int) else 0) ≤ 1 := by split <;> omega
      have hml : (0 : Int) < ((ns.length + ns.length + 2 : Nat) : Int) - (if b = true then 1 else 0) := by omega
      have hr2 := mod_range (k := f (n + (0 + j))) hml
      have hsl : (ns ++ ns ++ [("truth" : Str), "none"]).length = ns.length + ns.length + 2 := by simp; omega
      obtain ⟨p, e1, hpm, _⟩ := ix_lst (f := D.str) (xs := ns ++ ns ++ [("truth" : Str), "none"]) (i := f (n + (0 + j)) % (((ns.length + ns.length + 2 : Nat) : Int) - (if b = true then 1 else 0))) hr2.1 (by rw [hsl]; have := hr2.2; omega)
      refine ⟨_, [some .deck, x1, some (.lst (ns.map .str)), x3, x4, x5, x6, x7, x8, x9, some (.lst ((ps ++ [p]).map .str)), some (.int (0 + j)), some (.int (f (n + (0 + j)))), some (.lst ((ns ++ ns ++ [("truth" : Str), "none"]).map .str)), x14], n + (0 + j) + 1, rfl, ?_, ps ++ [p], _, _, _, rfl, rfl, by rw [List.length_append, hl]; rfl, ?_⟩
      · unfold l1_drawn_kinds
        refine (bSeq_n (sSet_n (eCall_e (aCons_e (eVar_e rfl) aNil_e) (nx_e (by omega))))).trans ((bSeq_n (sSet_n (d := .lst ((ns ++ ns ++ [("truth" : Str), "none"]).map .str)) (e2_e (e2_e (eVar_e rfl) (eVar_e rfl) (add_lst (by simp; omega))) (eLst_e (aCons_e rfl (aCons_e rfl aNil_e))) ?_))).trans ?_)
        · rw [add_lst (by simp; omega), List.map_append, List.map_append]; rfl
        · rw [List.map_append (l₁ := ps)]
          refine sApp_n (xs := ps.map .str) (d := .str p) rfl (e2_e (eVar_e rfl) (e2_e (eVar_e rfl) (e2_e (eF_e (aCons_e (eVar_e rfl) aNil_e) (d := .int (ns.length + ns.length + 2 : Nat)) ?_) (eF_e (aCons_e (e2_e (e2_e (e2_e (eVar_e rfl) rfl (div_i ⟨by decide, by decide⟩)) rfl (mod_i (by decide))) rfl (z := .bl b) ?_) aNil_e) (d := .int (if b = true then 1 else 0)) rfl) (z := .int (((ns.length + ns.length + 2 : Nat) : Int) - (if b = true then 1 else 0))) rfl) (mod_i hml)) e1) (by rw [List.length_map]; omega)
          · show some (D.int ((((ns ++ ns ++ [("truth" : Str), "none"]).map D.str).length : Nat) : Int)) = _
            rw [List.length_map, hsl]
          · show some (D.bl (decide ((0 : Int) < f (n + (0 + j)) / 16 % 12))) = _
            rw [hb]
      · intro q hq
        rcases List.mem_append.mp hq with h | h
        · exact hp q h
        · rw [List.mem_singleton.mp h]
          simp only [List.mem_append, List.mem_cons, List.not_mem_nil, or_false] at hpm
          rcases hpm with (h | h) | h | h
          · exact .inl (nws_kws (hk p h))
          · exact .inl (nws_kws (hk p h))
          · exact .inr h
          · exact .inl (by rw [h]; exact List.mem_append_right _ (by simp)))
  rw [rngD_len, Nat.zero_add] at h3 h2
  exact ⟨ps, y11, y12, y13, m, h1, by omega, h3, h4⟩
end
end Sh


set_option Elab.async false
set_option linter.all false
set_option maxRecDepth 100000
namespace Sh
open PySem L2 Nf
theorem mw_at : ∀ j : Nat, j < 17 → ∃ x ∈ mws, ∃ c, fDG (.str ("abcdefghijklmnopq" : Str)) (.int (j : Nat)) = some (.str c) ∧ fAdd (.str "m") (.str c) = some (.str x) := by
  intro j hj
  match j, hj with
  | 0, _ => exact ⟨"ma", by simp [mws], "a", by kernel_rfl, by kernel_rfl⟩
  | 1, _ => exact ⟨"mb", by simp [mws], "b", by kernel_rfl, by kernel_rfl⟩
  | 2, _ => exact ⟨"mc", by simp [mws], "c", by kernel_rfl, by kernel_rfl⟩
  | 3, _ => exact ⟨"md", by simp [mws], "d", by kernel_rfl, by kernel_rfl⟩
  | 4, _ => exact ⟨"me", by simp [mws], "e", by kernel_rfl, by kernel_rfl⟩
  | 5, _ => exact ⟨"mf", by simp [mws], "f", by kernel_rfl, by kernel_rfl⟩
  | 6, _ => exact ⟨"mg", by simp [mws], "g", by kernel_rfl, by kernel_rfl⟩
  | 7, _ => exact ⟨"mh", by simp [mws], "h", by kernel_rfl, by kernel_rfl⟩
  | 8, _ => exact ⟨"mi", by simp [mws], "i", by kernel_rfl, by kernel_rfl⟩
  | 9, _ => exact ⟨"mj", by simp [mws], "j", by kernel_rfl, by kernel_rfl⟩
  | 10, _ => exact ⟨"mk", by simp [mws], "k", by kernel_rfl, by kernel_rfl⟩
  | 11, _ => exact ⟨"ml", by simp [mws], "l", by kernel_rfl, by kernel_rfl⟩
  | 12, _ => exact ⟨"mm", by simp [mws], "m", by kernel_rfl, by kernel_rfl⟩
  | 13, _ => exact ⟨"mn", by simp [mws], "n", by kernel_rfl, by kernel_rfl⟩
  | 14, _ => exact ⟨"mo", by simp [mws], "o", by kernel_rfl, by kernel_rfl⟩
  | 15, _ => exact ⟨"mp", by simp [mws], "p", by kernel_rfl, by kernel_rfl⟩
  | 16, _ => exact ⟨"mq", by simp [mws], "q", by kernel_rfl, by kernel_rfl⟩
  | j + 17, h => omega
theorem vOr_bl {a b : Ed} {ρ : Sd} {n : Nat} {x y : Bool} (ha : a ρ n = some (.bl x, n)) (hb : b ρ n = some (.bl y, n)) : vOr a b ρ n = some (.bl (x || y), n) := by
  cases x with
  | true => exact vOr_t ha rfl
  | false => exact (vOr_f ha rfl).trans hb
section
variable {f : Nat → Int} (hf : ∀ n, 0 ≤ f n ∧ f n < MM)
include hf
theorem dmakers {ns : List Str} {x1 x3 x5 x8 x9 x10 x11 x12 x13 x14 : Option D} {w7 : Int} {n r M0 : Nat} (hns : ns.length ≤ 4) (hk : ∀ x ∈ ns, x ∈ nws) (hr : r ≤ 4) (hn : n + 16 ≤ 2 ^ 40) :
    ∃ (ms : List Mk) (y8 y9 y10 y11 y12 y13 y14 : Option D) (m : Nat), fM (gN 8) (l2_drawn_kinds (nxS f)) (rngD 0 r) [some .deck, x1, some (.lst (ns.map .str)), x3, some (.int (M0 : Nat)), x5, some (.lst []), some (.int w7), x8, x9, x10, x11, x12, x13, x14] n =
      some (.next [some .deck, x1, some (.lst (ns.map .str)), x3, some (.int ((M0 + r : Nat))), x5, some (.lst (ms.map Mk.d)), some (.int w7), y8, y9, y10, y11, y12, y13, y14], m) ∧ m ≤ n + 16 ∧ ms.length = r ∧ ∀ q ∈ ms, MkIn q := by
  obtain ⟨ρ', m, h1, ms, y8, y9, y10, y11, y12, y13, y14, rfl, h2, h3, h4⟩ := fM_inv (g := gN 8) (b := l2_drawn_kinds (nxS f)) (fun i ρ m => ∃ (ms : List Mk) (y8 y9 y10 y11 y12 y13 y14 : Option D), ρ = [some .deck, x1, some (.lst (ns.map .str)), x3, some (.int ((M0 + i : Nat))), x5, some (.lst (ms.map Mk.d)), some (.int w7), y8, y9, y10, y11, y12, y13, y14] ∧ m ≤ n + 4 * i ∧ ms.length = i ∧ ∀ q ∈ ms, MkIn q) (rngD 0 r) 0
    [some .deck, x1, some (.lst (ns.map .str)), x3, some (.int (M0 : Nat)), x5, some (.lst []), some (.int w7), x8, x9, x10, x11, x12, x13, x14] n ⟨[], x8, x9, x10, x11, x12, x13, x14, rfl, by omega, rfl, by simp⟩ (by
      rintro j d ρ m hj ⟨ms, y8, y9, y10, y11, y12, y13, y14, rfl, hm, hl, hq⟩
      obtain ⟨rfl, hjr⟩ := rngD_get hj
      have hfm := hf m
      have hr4 := mod_range (k := f m) (m := 4) (by decide)
      obtain ⟨b, hb⟩ : ∃ b : Bool, b = (decide ((0 : Int) < 0 + j) || decide (w7 / 4 % 2 = 0)) := ⟨_, rfl⟩
      have hbz : (if b = true then (1 : Int) else 0) = 0 ∨ (if b = true then (1 : Int) else 0) = 1 := by split <;> simp
      obtain ⟨c, ec, hc, _⟩ := ix_lst (f := D.int) (xs := [0, 1, 2, 3]) (i := f m % 4 * (if b = true then 1 else 0)) (by rcases hbz with z | z <;> rw [z] <;> omega) (by show _ < (4 : Int); rcases hbz with z | z <;> rw [z] <;> omega)
      have hc3 : 0 ≤ c ∧ c ≤ 3 := by simp only [List.mem_cons, List.not_mem_nil, or_false] at hc; omega
      obtain ⟨ps, z11, z12, z13, m', p1, p2, p3, p4⟩ := dparts hf (ns := ns) (x1 := x1) (x3 := x3) (x4 := some (.int ((M0 + (0 + j) : Nat)))) (x5 := x5) (x6 := some (.lst (ms.map Mk.d))) (x7 := some (.int w7)) (x8 := some (.int (0 + j))) (x9 := some (.int (f m))) (x11 := y11) (x12 := y12) (x13 := y13) (x14 := y14) (n := m + 1) (r := c.toNat) hns hk (by omega) (by omega)
      have h17 := mod_range (k := ((M0 + (0 + j) : Nat) : Int)) (m := 17) (by decide)
      obtain ⟨a, ha⟩ : ∃ a : Nat, ((M0 + (0 + j) : Nat) : Int) % 17 = (a : Nat) := ⟨(((M0 + (0 + j) : Nat) : Int) % 17).toNat, by omega⟩
      obtain ⟨x, hx, cc, e1, e2'⟩ := mw_at a (by omega)
      obtain ⟨b2, hb2⟩ : ∃ b : Bool, b = decide (f m / 4 % 24 = 0) := ⟨_, rfl⟩
      obtain ⟨x2, e3, hx2, _⟩ := ix_lst (f := D.str) (xs := [x, ("ma" : Str)]) (i := if b2 = true then 1 else 0) (by split <;> omega) (by show _ < (2 : Int); split <;> omega)
      have hx2m : x2 ∈ mws := by
        have : x2 = x ∨ x2 = "ma" := by simpa using hx2
        rcases this with rfl | rfl
        · exact hx
        · simp [mws]
      refine ⟨_, [some .deck, x1, some (.lst (ns.map .str)), x3, some (.int ((M0 + (0 + j + 1) : Nat))), x5, some (.lst ((ms ++ [(⟨x2, ps⟩ : Mk)]).map Mk.d)), some (.int w7), some (.int (0 + j)), some (.int (f m)), some (.lst (ps.map .str)), z11, z12, z13, some (.str x)], m', rfl, ?_, ms ++ [⟨x2, ps⟩], _, _, _, _, _, _, _, rfl, by omega, by rw [List.length_append, hl]; rfl, ?_⟩
      · unfold l2_drawn_kinds
        have ob : vOr (e2 fGt (eVar 8) (eC (.int 0))) (e2 fEq (e2 fMod (e2 fDiv (eVar 7) (eC (.int 4))) (eC (.int 2))) (eC (.int 0))) [some .deck, x1, some (.lst (ns.map .str)), x3, some (.int ((M0 + (0 + j) : Nat))), x5, some (.lst (ms.map Mk.d)), some (.int w7), some (.int (0 + j)), some (.int (f m)), some (.lst []), y11, y12, y13, y14] (m + 1) = some (.bl b, m + 1) := by
          rw [hb]
          exact vOr_bl (e2_e (eVar_e rfl) rfl rfl) (e2_e (e2_e (e2_e (eVar_e rfl) rfl (div_i ⟨by decide, by decide⟩)) rfl (mod_i (by decide))) rfl eq_int)
        refine (bSeq_n (sSet_n (eCall_e (aCons_e (eVar_e rfl) aNil_e) (nx_e (by omega))))).trans ((bSeq_n (sSet_n (eLst_e aNil_e))).trans ((bSeq_n ((sFor_i (i1_e (e2_e (eLst_e (aCons_e rfl (aCons_e rfl (aCons_e rfl (aCons_e rfl aNil_e))))) (e2_e (e2_e (eVar_e rfl) rfl (mod_i (by decide))) (eF_e (aCons_e ob aNil_e) (d := .int (if b = true then 1 else 0)) rfl) (mul_i (.inl ⟨by omega, by omega⟩))) ec) (r1_e (by omega)))).trans p1)).trans ?_))
        refine (bSeq_n (sSet_n (d := .str x) (e2_e rfl (e2_e rfl (e2_e (eVar_e rfl) rfl (mod_i (by decide))) (by rw [ha]; exact e1)) e2'))).trans ?_
        have et : eTup (aCons (e2 fDG (eLst (aCons (eVar 14) (aCons (eC (.str ("ma" : Str))) aNil))) (eF (f1 fInt) (aCons (e2 fEq (e2 fMod (e2 fDiv (eVar 9) (eC (.int 4))) (eC (.int 24))) (eC (.int 0))) aNil))) (aCons (eF (f1 fTupD) (aCons (eVar 10) aNil)) aNil)) [some .deck, x1, some (.lst (ns.map .str)), x3, some (.int ((M0 + (0 + j) : Nat))), x5, some (.lst (ms.map Mk.d)), some (.int w7), some (.int (0 + j)), some (.int (f m)), some (.lst (ps.map .str)), z11, z12, z13, some (.str x)] m' = some (Mk.d ⟨x2, ps⟩, m') :=
          eTup_e (aCons_e (e2_e (eLst_e (aCons_e (eVar_e rfl) (aCons_e rfl aNil_e))) (eF_e (aCons_e (e2_e (e2_e (e2_e (eVar_e rfl) rfl (div_i ⟨by decide, by decide⟩)) rfl (mod_i (by decide))) rfl (z := .bl b2) (by rw [hb2]; exact eq_int)) aNil_e) (d := .int (if b2 = true then 1 else 0)) rfl) e3) (aCons_e (eF_e (aCons_e (eVar_e rfl) aNil_e) rfl) aNil_e))
        refine (bSeq_n (sApp_n (xs := ms.map Mk.d) (d := Mk.d ⟨x2, ps⟩) rfl (eFl_e et (by show D.flat (.tup [.str x2, .tup (ps.map .str)]) = true; simp only [D.flat, D.flatA, flat_strs, Bool.and_self])) (by rw [List.length_map]; omega))).trans ?_
        rw [List.map_append]
        refine sSet_n (d := .int ((M0 + (0 + j + 1) : Nat))) (e2_e (eVar_e rfl) rfl ?_)
        show some (D.int (((M0 + (0 + j) : Nat) : Int) + 1)) = _
        congr 2
      · intro q hq'
        rcases List.mem_append.mp hq' with h | h
        · exact hq q h
        · rw [List.mem_singleton.mp h]
          exact ⟨hx2m, by show ps.length ≤ 3; omega, p4⟩)
  rw [rngD_len, Nat.zero_add] at h3 h2
  rw [rngD_len, Nat.zero_add] at h1
  exact ⟨ms, y8, y9, y10, y11, y12, y13, y14, m, h1, by omega, h3, h4⟩
end
end Sh


set_option Elab.async false
set_option linter.all false
set_option maxRecDepth 100000
namespace Sh
open PySem L2 Nf
theorem flat_mks : ∀ ms : List Mk, D.flatA (ms.map Mk.d) = true
  | [] => rfl
  | m :: r => by
    have : D.flat m.d = true := by show D.flat (.tup [.str m.w, .tup (m.ps.map .str)]) = true; simp only [D.flat, D.flatA, flat_strs, Bool.and_self]
    simp only [List.map_cons, D.flatA, this, flat_mks r, Bool.and_self]
section
variable {f : Nat → Int} (hf : ∀ n, 0 ≤ f n ∧ f n < MM)
include hf
theorem dkinds {ns : List Str} {x1 : Option D} {n : Nat} (hns : ns.length ≤ 4) (hk : ∀ x ∈ ns, x ∈ nws) (hn : n + 68 ≤ 2 ^ 40) :
    ∃ (ks : List Kd) (ρ : Sd) (m : Nat), fM (gN 5) (l3_drawn_kinds (nxS f)) (ns.map .str) [some .deck, x1, some (.lst (ns.map .str)), some (.lst []), some (.int (0 : Nat)), none, none, none, none, none, none, none, none, none, none] n = some (.next ρ, m) ∧ ρ[3]? = some (some (.lst (ks.map Kd.d))) ∧ m ≤ n + 68 ∧ ks.length = ns.length ∧ ∀ q ∈ ks, KdIn q := by
  obtain ⟨ρ', m, h1, ks, M0, y5, y6, y7, y8, y9, y10, y11, y12, y13, y14, rfl, h2, h3, h4⟩ := fM_inv (g := gN 5) (b := l3_drawn_kinds (nxS f)) (fun i ρ m => ∃ (ks : List Kd) (M0 : Nat) (y5 y6 y7 y8 y9 y10 y11 y12 y13 y14 : Option D), ρ = [some .deck, x1, some (.lst (ns.map .str)), some (.lst (ks.map Kd.d)), some (.int (M0 : Nat)), y5, y6, y7, y8, y9, y10, y11, y12, y13, y14] ∧ m ≤ n + 17 * i ∧ ks.length = i ∧ ∀ q ∈ ks, KdIn q) (ns.map .str) 0
    [some .deck, x1, some (.lst (ns.map .str)), some (.lst []), some (.int (0 : Nat)), none, none, none, none, none, none, none, none, none, none] n ⟨[], 0, none, none, none, none, none, none, none, none, none, none, rfl, by omega, rfl, by simp⟩ (by
      rintro j d ρ m hj ⟨ks, M0, y5, y6, y7, y8, y9, y10, y11, y12, y13, y14, rfl, hm, hl, hq⟩
      have hjl : j < ns.length := by have := (List.getElem?_eq_some_iff.mp hj).1; rwa [List.length_map] at this
      rw [List.getElem?_map] at hj
      obtain ⟨x, hx, rfl⟩ := Option.map_eq_some_iff.mp hj
      have hxn := hk x (List.mem_of_getElem? hx)
      have hfm := hf m
      have hr4 := mod_range (k := f m) (m := 4) (by decide)
      obtain ⟨ms, z8, z9, z10, z11, z12, z13, z14, m', p1, p2, p3, p4⟩ := dmakers hf (ns := ns) (x1 := x1) (x3 := some (.lst (ks.map Kd.d))) (x5 := some (.str x)) (x8 := y8) (x9 := y9) (x10 := y10) (x11 := y11) (x12 := y12) (x13 := y13) (x14 := y14) (w7 := f m) (n := m + 1) (r := (1 + f m % 4).toNat) (M0 := M0) hns hk (by omega) (by omega)
      refine ⟨_, [some .deck, x1, some (.lst (ns.map .str)), some (.lst ((ks ++ [(⟨x, ms⟩ : Kd)]).map Kd.d)), some (.int ((M0 + (1 + f m % 4).toNat : Nat))), some (.str x), some (.lst (ms.map Mk.d)), some (.int (f m)), z8, z9, z10, z11, z12, z13, z14], m', rfl, ?_, ks ++ [⟨x, ms⟩], _, _, _, _, _, _, _, _, _, _, _, rfl, by omega, by rw [List.length_append, hl]; rfl, ?_⟩
      · unfold l3_drawn_kinds
        refine (bSeq_n (sSet_n (eLst_e aNil_e))).trans ((bSeq_n (sSet_n (eCall_e (aCons_e (eVar_e rfl) aNil_e) (nx_e (by omega))))).trans ((bSeq_n ((sFor_i (i1_e (e2_e rfl (e2_e (eVar_e rfl) rfl (mod_i (by decide))) (z := .int (1 + f m % 4)) rfl) (r1_e (by omega)))).trans p1)).trans ?_))
        rw [List.map_append]
        refine sApp_n (xs := ks.map Kd.d) (d := Kd.d ⟨x, ms⟩) rfl (eFl_e (eTup_e (aCons_e (eVar_e rfl) (aCons_e (eF_e (aCons_e (eVar_e rfl) aNil_e) rfl) aNil_e))) ?_) (by rw [List.length_map]; omega)
        show D.flat (.tup [.str x, .tup (ms.map Mk.d)]) = true
        simp only [D.flat, D.flatA, flat_mks, Bool.and_self]
      · intro q hq'
        rcases List.mem_append.mp hq' with h | h
        · exact hq q h
        · rw [List.mem_singleton.mp h]
          exact ⟨hxn, by show 1 ≤ ms.length; omega, by show ms.length ≤ 4; omega, p4⟩)
  rw [List.length_map, Nat.zero_add] at h3 h2
  exact ⟨ks, _, m, h1, rfl, by omega, h3, h4⟩
def F_dk (f : Nat → Int) : List D → M D := fnA 1 15 (b_drawn_kinds (nxS f))
theorem dk_f {n : Nat} (hn : n + 69 ≤ 2 ^ 40) : ∃ ks m, F_dk f [.deck] n = some (.tup (ks.map Kd.d), m) ∧ m ≤ n + 69 ∧ KsIn ks := by
  have hfn := hf n
  have hr4 := mod_range (k := f n / 8) (m := 4) (by decide)
  obtain ⟨b, hb⟩ : ∃ b : Bool, b = decide (f n % 8 = 0) := ⟨_, rfl⟩
  obtain ⟨L, e1, hL, _⟩ := ix_lst (f := fun l : List Str => D.lst (l.map .str)) (xs := [["a", "bb", "kc", "kd"], ["num", "list", "tree", "num"]]) (i := if b = true then 1 else 0) (by split <;> omega) (by show _ < (2 : Int); split <;> omega)
  have hL4 : L.length = 4 ∧ ∀ x ∈ L, x ∈ nws := by
    have : L = ([("a" : Str), "bb", "kc", "kd"] : List Str) ∨ L = ([("num" : Str), "list", "tree", "num"] : List Str) := by simpa using hL
    rcases this with rfl | rfl
    · exact ⟨rfl, fun x hx => by simp [nws] at hx ⊢; rcases hx with rfl | rfl | rfl | rfl <;> simp⟩
    · exact ⟨rfl, fun x hx => by simp [nws] at hx ⊢; rcases hx with rfl | rfl | rfl | rfl <;> simp⟩
  obtain ⟨a, ha⟩ : ∃ a : Nat, 1 + f n / 8 % 4 = (a : Nat) := ⟨(1 + f n / 8 % 4).toNat, by omega⟩
  obtain ⟨ks, ρ, m, k1, k2, k3, k4, k5⟩ := dkinds hf (ns := L.take a) (x1 := some (.int (f n))) (n := n + 1) (by rw [List.length_take]; omega) (fun x hx => hL4.2 x (List.mem_of_mem_take hx)) (by omega)
  refine ⟨ks, m, fn_ret rfl ?_, by omega, by rw [k4, List.length_take]; omega, k5⟩
  show b_drawn_kinds (nxS f) [some .deck, none, none, none, none, none, none, none, none, none, none, none, none, none, none] n = _
  unfold b_drawn_kinds
  have es : eSl (e2 fDG (eLst (aCons (eLst (aCons (eC (.str ("a" : Str))) (aCons (eC (.str ("bb" : Str))) (aCons (eC (.str ("kc" : Str))) (aCons (eC (.str ("kd" : Str))) aNil))))) (aCons (eLst (aCons (eC (.str ("num" : Str))) (aCons (eC (.str ("list" : Str))) (aCons (eC (.str ("tree" : Str))) (aCons (eC (.str ("num" : Str))) aNil))))) aNil))) (eF (f1 fInt) (aCons (e2 fEq (e2 fMod (eVar 1) (eC (.int 8))) (eC (.int 0))) aNil))) (fun _ => Mp none) (pSome (e2 fAdd (eC (.int 1)) (e2 fMod (e2 fDiv (eVar 1) (eC (.int 8))) (eC (.int 4))))) [some .deck, some (.int (f n)), none, none, none, none, none, none, none, none, none, none, none, none, none] (n + 1) = some (.lst ((L.take a).map .str), n + 1) := by
    have x1 : e2 fDG (eLst (aCons (eLst (aCons (eC (.str ("a" : Str))) (aCons (eC (.str ("bb" : Str))) (aCons (eC (.str ("kc" : Str))) (aCons (eC (.str ("kd" : Str))) aNil))))) (aCons (eLst (aCons (eC (.str ("num" : Str))) (aCons (eC (.str ("list" : Str))) (aCons (eC (.str ("tree" : Str))) (aCons (eC (.str ("num" : Str))) aNil))))) aNil))) (eF (f1 fInt) (aCons (e2 fEq (e2 fMod (eVar 1) (eC (.int 8))) (eC (.int 0))) aNil)) [some .deck, some (.int (f n)), none, none, none, none, none, none, none, none, none, none, none, none, none] (n + 1) = some (.lst (L.map .str), n + 1) :=
      e2_e (eLst_e (aCons_e (eLst_e (aCons_e rfl (aCons_e rfl (aCons_e rfl (aCons_e rfl aNil_e))))) (aCons_e (eLst_e (aCons_e rfl (aCons_e rfl (aCons_e rfl (aCons_e rfl aNil_e))))) aNil_e))) (eF_e (aCons_e (e2_e (e2_e (eVar_e rfl) rfl (mod_i (by decide))) rfl (z := .bl b) (by rw [hb]; exact eq_int)) aNil_e) (d := .int (if b = true then 1 else 0)) rfl) e1
    have x2 : e2 fAdd (eC (.int 1)) (e2 fMod (e2 fDiv (eVar 1) (eC (.int 8))) (eC (.int 4))) [some .deck, some (.int (f n)), none, none, none, none, none, none, none, none, none, none, none, none, none] (n + 1) = some (.int (a : Nat), n + 1) :=
      e2_e rfl (e2_e (e2_e (eVar_e rfl) rfl (div_i ⟨by decide, by decide⟩)) rfl (mod_i (by decide))) (by show some (D.int (1 + f n / 8 % 4)) = _; rw [ha])
    unfold eSl Mb
    rw [x1]
    simp only [Mp, pSome, Mb, x2]
    show Mo (some (D.lst (cutD (L.map .str) none (some ((a : Nat) : Int))))) (n + 1) = _
    have : cutD (L.map D.str) none (some ((a : Nat) : Int)) = (L.take a).map D.str := by
      show ((L.map D.str).drop 0).take (HT.sIx (L.map D.str).length (L.map D.str).length (some ((a : Nat) : Int)) - 0) = _
      rw [HT.sIx_nat, List.drop_zero, Nat.sub_zero, Nat.min_eq_left (by rw [List.length_map]; omega), List.map_take]
    rw [this]; rfl
  refine (bSeq_n (sSet_n (eCall_e (aCons_e (eVar_e rfl) aNil_e) (nx_e (by omega))))).trans ((bSeq_n (sSet_n es)).trans ((bSeq_n (sSet_n (eLst_e aNil_e))).trans ((bSeq_n (sSet_n rfl)).trans ((bSeq_n ((sFor_i (iSeq_e (eVar_e rfl) (items_lst (by rw [List.length_map, List.length_take]; omega)))).trans k1)).trans (sRet_r (eF_e (aCons_e (eVar_e k2) aNil_e) rfl))))))
end
end Sh


set_option Elab.async false
set_option linter.all false
set_option maxRecDepth 100000
namespace Sh
open PySem L2 Nf
/-! the law's own look at the form -/
def G_word : List D → M D := fnA 1 2 b_l_is_word
def G_new : List D → M D := fnA 1 2 b_is_new
def G_row : List D → M D := fnA 3 3 b_l_is_row
def G_kn : List D → M D := fnA 1 1 (b_is_kind G_word)
def G_kns : List D → M D := fnA 1 2 (b_are_kinds G_kn G_row)
def G_kf : List D → M D := fnA 1 2 (b_kind_formed G_kns G_word G_row)
def G_is : Nat → List D → M D
  | 0 => F_no
  | k + 1 => fnA 2 3 (b_is (G_is k) G_word G_new)
def G_size : Nat → List D → M D
  | 0 => F_no
  | k + 1 => fnA 1 5 (b_size (G_size k))
def G_hn : Nat → List D → M D
  | 0 => F_no
  | k + 1 => fnA 1 3 (b_has_new (G_hn k) G_new)
def G_th : List D → M D := fnA 3 4 (b_is_there (G_hn 1) (G_size 1) (G_is 1))
def G_ff : List D → M D := fnA 1 3 (b_function_formed G_th G_row G_kn G_kns G_word)
def G_fm : List D → M D := fnA 2 3 (b_formed G_ff G_kf G_row)
theorem gword_at : ∀ x ∈ words, ∀ n, G_word [.str x] n = some (.bl true, n) := by
  intro x hx n
  simp only [words, kws, nws, mws, List.cons_append, List.nil_append, List.mem_cons, List.not_mem_nil, or_false] at hx
  rcases hx with rfl | rfl | rfl | rfl | rfl | rfl | rfl | rfl | rfl | rfl | rfl | rfl | rfl | rfl | rfl | rfl | rfl | rfl | rfl | rfl | rfl | rfl | rfl | rfl | rfl | rfl | rfl | rfl <;> kernel_rfl
theorem gth_at : ∀ m ∈ mws, ∀ n, G_th [rgt m, .int 8, .bl false] n = some (.bl true, n) := by
  intro x hx n
  simp only [mws, List.mem_cons, List.not_mem_nil, or_false] at hx
  rcases hx with rfl | rfl | rfl | rfl | rfl | rfl | rfl | rfl | rfl | rfl | rfl | rfl | rfl | rfl | rfl | rfl | rfl <;> kernel_rfl
theorem grow_f {ds : List D} {lo hi : Int} {n : Nat} : G_row [.tup ds, .int lo, .int hi] n = some (.bl (decide (lo ≤ (ds.length : Int)) && decide ((ds.length : Int) ≤ hi)), n) := row_f
theorem gkn_truth (n : Nat) : G_kn [.str "truth"] n = some (.bl true, n) := by kernel_rfl
theorem gkn_f {x : Str} {n : Nat} (h : x ∈ kws ∨ x = "truth") : G_kn [.str x] n = some (.bl true, n) := by
  rcases h with h | rfl
  · refine fn_ret rfl ?_
    show b_is_kind G_word [some (.str x)] n = _
    unfold b_is_kind
    exact sRet_r (vOr_t (eCall_e (aCons_e (eVar_e rfl) aNil_e) (gword_at x (in_words (.inl h)) n)) rfl)
  · exact gkn_truth n
theorem gkns_f {ps : List Str} {n : Nat} (hl : ps.length ≤ 3) (h : ∀ p ∈ ps, p ∈ kws ∨ p = "truth") : G_kns [.tup (ps.map .str)] n = some (.bl true, n) := by
  refine fn_ret rfl ?_
  show b_are_kinds G_kn G_row [some (.tup (ps.map .str)), none] n = _
  unfold b_are_kinds
  refine sRet_r ((vAn_t (x := .bl true) (m := n) (eCall_e (aCons_e (eVar_e rfl) (aCons_e rfl (aCons_e rfl aNil_e))) ((grow_f (ds := ps.map .str) (lo := 0) (hi := 3)).trans ?_)) rfl).trans ((all_e (fd := D.str) (xs := ps) (p := fun _ => true) (iSeq_e (eVar_e rfl) (items_tup (by rw [List.length_map]; omega))) fun x hx => ⟨_, rfl, eCall_e (aCons_e (eVar_e rfl) aNil_e) (gkn_f (h x hx))⟩).trans ?_))
  · rw [List.length_map, decide_eq_true (show (0 : Int) ≤ (ps.length : Int) by omega), decide_eq_true (show (ps.length : Int) ≤ 3 by omega)]; rfl
  · rw [all_yes]
theorem gkf_loop {K : D} {n : Nat} : ∀ (ms : List Mk) (x1 : Option D), (∀ m ∈ ms, MkIn m) → ∃ y1, fM (gN 1) (l1_kind_formed G_row G_word G_kns) (ms.map Mk.d) [some K, x1] n = some (.next [some K, y1], n)
  | [], x1, _ => ⟨x1, rfl⟩
  | m :: r, x1, h => by
    have hm := h m (by simp)
    obtain ⟨y1, e⟩ := gkf_loop (K := K) (n := n) r (some m.d) fun q hq => h q (by simp [hq])
    refine ⟨y1, (fM_next (ρ1 := [some K, some m.d]) rfl ?_).trans e⟩
    unfold l1_kind_formed
    exact (sIf_f ((tOr_f (tNt_e (b := true) (trB_e (x := .bl true) (eCall_e (aCons_e (eVar_e rfl) (aCons_e rfl (aCons_e rfl aNil_e))) (grow_f.trans rfl)) rfl))).trans
      ((tOr_f (tNt_e (b := true) (trB_e (eCall_e (aCons_e (e2_e (eVar_e rfl) rfl (z := .str m.w) rfl) aNil_e) (gword_at _ (in_words (.inr hm.1)) n)) rfl))).trans
      (tNt_e (b := true) (trB_e (eCall_e (aCons_e (e2_e (eVar_e rfl) rfl (z := .tup (m.ps.map .str)) rfl) aNil_e) (gkns_f hm.2.1 hm.2.2)) rfl))))).trans rfl
theorem gkf_f {k : Kd} {n : Nat} (h : KdIn k) : G_kf [k.d] n = some (.bl true, n) := by
  have e1 : e2 fDG (eVar 0) (eC (.int 1)) [some k.d, none] n = some (.tup (k.ms.map Mk.d), n) := e2_e (eVar_e rfl) rfl rfl
  obtain ⟨y1, e⟩ := gkf_loop (K := k.d) (n := n) k.ms none h.2.2.2
  refine fn_ret rfl ?_
  show b_kind_formed G_kns G_word G_row [some k.d, none] n = _
  unfold b_kind_formed
  refine (bSeq_n ((sIf_f ((tOr_f (tNt_e (b := true) (trB_e (eCall_e (aCons_e (eVar_e rfl) (aCons_e rfl (aCons_e rfl aNil_e))) ((grow_f (ds := [.str k.k, .tup (k.ms.map Mk.d)]) (lo := 2) (hi := 2)).trans rfl)) rfl))).trans
    ((tOr_f (tNt_e (b := true) (trB_e (eCall_e (aCons_e (e2_e (eVar_e rfl) rfl (z := .str k.k) rfl) aNil_e) (gword_at _ (in_words (.inl (nws_kws h.1))) n)) rfl))).trans
    (tNt_e (b := true) (trB_e (x := .bl true) (eCall_e (aCons_e e1 (aCons_e rfl (aCons_e rfl aNil_e))) ((grow_f (ds := k.ms.map Mk.d) (lo := 1) (hi := 4)).trans ?_)) rfl))))).trans rfl)).trans ((bSeq_n ((sFor_i (iSeq_e e1 (items_tup (by have := h.2.2.1; rw [List.length_map]; omega)))).trans e)).trans (sRet_r rfl))
  have := h.2.1
  have := h.2.2.1
  rw [List.length_map, decide_eq_true (show (1 : Int) ≤ (k.ms.length : Int) by omega), decide_eq_true (show (k.ms.length : Int) ≤ 4 by omega)]; rfl
theorem gff_f {k m : Str} {n : Nat} (hk : k ∈ nws) (hm : m ∈ mws) : G_ff [fun1 k m] n = some (.bl true, n) := by
  refine fn_ret rfl ?_
  show b_function_formed G_th G_row G_kn G_kns G_word [some (fun1 k m), none, none] n = _
  unfold b_function_formed
  have w1 : G_word [.str "first"] n = some (.bl true, n) := gword_at _ (by simp [words]) n
  have a1 := gkns_f (ps := []) (n := n) (by simp) (by simp)
  refine (bSeq_n ((sIf_f ((tOr_f (tNt_e (b := true) (trB_e (x := .bl true) (eCall_e (aCons_e (eVar_e rfl) (aCons_e rfl (aCons_e rfl aNil_e))) (grow_f.trans rfl)) rfl))).trans
    ((tOr_f (tNt_e (b := true) (trB_e (eCall_e (aCons_e (e2_e (eVar_e rfl) rfl (z := .str "first") rfl) aNil_e) w1) rfl))).trans
    (tNt_e (b := true) (trB_e (eCall_e (aCons_e (e2_e (eVar_e rfl) rfl (z := .tup []) rfl) aNil_e) a1) rfl))))).trans rfl)).trans ?_
  refine (bSeq_n ((sIf_f ((tOr_f (tNt_e (b := true) (trB_e (eCall_e (aCons_e (e2_e (eVar_e rfl) rfl (z := .str k) rfl) aNil_e) (gkn_f (.inl (nws_kws hk)))) rfl))).trans
    (tNt_e (b := true) (trB_e (x := .bl true) (eCall_e (aCons_e (e2_e (eVar_e rfl) rfl (z := .tup [rul m]) rfl) (aCons_e rfl (aCons_e rfl aNil_e))) (grow_f.trans rfl)) rfl)))).trans rfl)).trans
    ((bSeq_n (ρ' := [some (fun1 k m), some (rul m), none]) ((sFor_i (iSeq_e (e2_e (eVar_e rfl) rfl (z := .tup [rul m]) rfl) (items_tup (by simp)))).trans ((fM_next (ρ1 := [some (fun1 k m), some (rul m), none]) rfl ?_).trans fM_nil))).trans (sRet_r rfl))
  unfold l1_function_formed
  exact (bSeq_n ((sIf_f ((tOr_f (tNt_e (b := true) (trB_e (x := .bl true) (eCall_e (aCons_e (eVar_e rfl) (aCons_e rfl (aCons_e rfl aNil_e))) (grow_f.trans rfl)) rfl))).trans
    ((tOr_f (tNt_e (b := true) (trB_e (x := .bl true) (e1_e (e2_e (eVar_e rfl) rfl (z := .tup []) rfl) rfl) rfl))).trans
    (tNt_e (b := true) (trB_e (eCall_e (aCons_e (e2_e (eVar_e rfl) rfl (z := rgt m) rfl) (aCons_e rfl (aCons_e rfl aNil_e))) (gth_at m hm n)) rfl))))).trans rfl)).trans
    ((sIf_f (tNt_e (b := true) (trB_e (x := .bl true) ((all_e (fd := fun _ : Unit => D.non) (xs := []) (p := fun _ => true) (iSeq_e (e2_e (eVar_e rfl) rfl (z := .tup []) rfl) (items_tup (by simp))) (fun x hx => nomatch hx)).trans rfl) rfl))).trans rfl)
theorem gfm_f {ks : List Kd} {fs : List D} {n : Nat} (h : KsIn ks) (hl : fs.length ≤ 6) (hf : ∀ f ∈ fs, G_ff [f] n = some (.bl true, n)) : G_fm [.tup (ks.map Kd.d), .tup fs] n = some (.bl true, n) := by
  have h4 := h.1
  refine fn_ret rfl ?_
  show b_formed G_ff G_kf G_row [some (.tup (ks.map Kd.d)), some (.tup fs), none] n = _
  unfold b_formed
  have r1 : trB (eCall G_row (aCons (eVar 0) (aCons (eC (.int 0)) (aCons (eC (.int 4)) aNil)))) [some (.tup (ks.map Kd.d)), some (.tup fs), none] n = some (true, n) := trB_e (x := .bl true) (eCall_e (aCons_e (eVar_e rfl) (aCons_e rfl (aCons_e rfl aNil_e))) ((grow_f (ds := ks.map Kd.d) (lo := 0) (hi := 4)).trans (by
    rw [List.length_map, decide_eq_true (show (0 : Int) ≤ (ks.length : Int) by omega), decide_eq_true (show (ks.length : Int) ≤ 4 by omega)]; rfl))) rfl
  have r2 : trB (eCall G_row (aCons (eVar 1) (aCons (eC (.int 0)) (aCons (eC (.int 6)) aNil)))) [some (.tup (ks.map Kd.d)), some (.tup fs), none] n = some (true, n) := trB_e (x := .bl true) (eCall_e (aCons_e (eVar_e rfl) (aCons_e rfl (aCons_e rfl aNil_e))) ((grow_f (ds := fs) (lo := 0) (hi := 6)).trans (by
    rw [decide_eq_true (show (0 : Int) ≤ (fs.length : Int) by omega), decide_eq_true (show (fs.length : Int) ≤ 6 by omega)]; rfl))) rfl
  refine (bSeq_n ((sIf_f ((tOr_f (tNt_e r1)).trans (tNt_e r2))).trans rfl)).trans (sRet_r ((vAn_t (x := .bl true) (m := n) ?_ rfl).trans ?_))
  · refine (all_e (fd := Kd.d) (xs := ks) (p := fun _ => true) (iSeq_e (eVar_e rfl) (items_tup (by rw [List.length_map]; omega))) fun k hk => ⟨_, rfl, eCall_e (aCons_e (eVar_e rfl) aNil_e) (gkf_f (h.2 k hk))⟩).trans ?_
    rw [all_yes]
  · have hi : iSeq (eVar 1) [some (.tup (ks.map Kd.d)), some (.tup fs), none] n = some (fs.map fun d => d, n) := by
      rw [List.map_id']
      exact iSeq_e (eVar_e rfl) (items_tup (by omega))
    refine (all_e (g := gN 2) (vs := [2]) (te := eCall G_ff (aCons (eVar 2) aNil)) (fd := fun d : D => d) (xs := fs) (p := fun _ => true) hi fun f hf' => ⟨_, rfl, eCall_e (aCons_e (eVar_e rfl) aNil_e) (hf f hf')⟩).trans ?_
    rw [all_yes]
end Sh


set_option Elab.async false
set_option linter.all false
set_option maxRecDepth 100000
namespace Sh
open PySem L2 Nf
/-! the law's makers and functions by name -/
def F_mk : List D → M D := fnA 2 6 b_maker
def G_hd : List D → M D := fnA 2 3 b_head
def kT : Kd := ⟨"truth", [⟨"yes", []⟩, ⟨"no", []⟩]⟩
theorem mkI_no {K : D} {x k : Str} {x3 : Option D} {n : Nat} : ∀ (ms : List Mk) (x4 x5 : Option D), (∀ m ∈ ms, m.w ≠ x) → ∃ y4 y5, fM (gT (gsC (gN 4) (gsC (gN 5) gsN))) l1_maker (ms.map Mk.d) [some K, some (.str x), some (.str k), x3, x4, x5] n = some (.next [some K, some (.str x), some (.str k), x3, y4, y5], n)
  | [], x4, x5, _ => ⟨x4, x5, rfl⟩
  | m :: r, x4, x5, h => by
    obtain ⟨y4, y5, e⟩ := mkI_no (K := K) (x := x) (k := k) (x3 := x3) (n := n) r (some (.str m.w)) (some (.tup (m.ps.map .str))) fun q hq => h q (by simp [hq])
    refine ⟨y4, y5, (fM_next (ρ1 := [some K, some (.str x), some (.str k), x3, some (.str m.w), some (.tup (m.ps.map .str))]) rfl ?_).trans e⟩
    unfold l1_maker
    exact (sIf_f (tEq_f (x := m.w) (y := x) (eVar_e rfl) (eVar_e rfl) (h m (by simp)))).trans rfl
theorem mkI_yes {K : D} {k : Str} {x3 : Option D} {n : Nat} {mk : Mk} : ∀ (ms : List Mk) (x4 x5 : Option D), mk ∈ ms → (ms.map Mk.w).Nodup → fM (gT (gsC (gN 4) (gsC (gN 5) gsN))) l1_maker (ms.map Mk.d) [some K, some (.str mk.w), some (.str k), x3, x4, x5] n = some (.ret (.tup [.str k, .tup (mk.ps.map .str)]), n)
  | m :: r, x4, x5, hm, hn => by
    rw [List.map_cons, List.nodup_cons] at hn
    by_cases c : m.w = mk.w
    · have : m = mk := by
        rcases List.mem_cons.mp hm with rfl | hm
        · rfl
        · exact absurd (by rw [c]; exact List.mem_map_of_mem hm) hn.1
      subst this
      refine fM_ret (ρ1 := [some K, some (.str m.w), some (.str k), x3, some (.str m.w), some (.tup (m.ps.map .str))]) rfl ?_
      unfold l1_maker
      exact (sIf_t (tEq_t (x := m.w) (y := m.w) (eVar_e rfl) (eVar_e rfl))).trans (sRet_r (eTup_e (aCons_e (eVar_e rfl) (aCons_e (eVar_e rfl) aNil_e))))
    · have hm' : mk ∈ r := by
        rcases List.mem_cons.mp hm with rfl | hm
        · exact absurd rfl c
        · exact hm
      refine (fM_next (ρ1 := [some K, some (.str mk.w), some (.str k), x3, some (.str m.w), some (.tup (m.ps.map .str))]) rfl ?_).trans (mkI_yes (K := K) (x3 := x3) r (some (.str m.w)) (some (.tup (m.ps.map .str))) hm' hn.2)
      unfold l1_maker
      exact (sIf_f (tEq_f (x := m.w) (y := mk.w) (eVar_e rfl) (eVar_e rfl) c)).trans rfl
theorem l2m {K : D} {x : Str} {k : Kd} {x2 x3 x4 x5 : Option D} {n : Nat} (h4 : k.ms.length ≤ 4) : (gT (gsC (gN 2) (gsC (gN 3) gsN))) k.d [some K, some (.str x), x2, x3, x4, x5] = some [some K, some (.str x), some (.str k.k), some (.tup (k.ms.map Mk.d)), x4, x5] ∧
    l2_maker [some K, some (.str x), some (.str k.k), some (.tup (k.ms.map Mk.d)), x4, x5] n = fM (gT (gsC (gN 4) (gsC (gN 5) gsN))) l1_maker (k.ms.map Mk.d) [some K, some (.str x), some (.str k.k), some (.tup (k.ms.map Mk.d)), x4, x5] n := ⟨rfl, by
  unfold l2_maker
  exact sFor_i (iSeq_e (eVar_e rfl) (items_tup (by rw [List.length_map]; omega)))⟩
theorem mkO_no {K : D} {x : Str} {n : Nat} : ∀ (ks : List Kd) (x2 x3 x4 x5 : Option D), (∀ k ∈ ks, k.ms.length ≤ 4 ∧ ∀ m ∈ k.ms, m.w ≠ x) → ∃ y2 y3 y4 y5, fM (gT (gsC (gN 2) (gsC (gN 3) gsN))) l2_maker (ks.map Kd.d) [some K, some (.str x), x2, x3, x4, x5] n = some (.next [some K, some (.str x), y2, y3, y4, y5], n)
  | [], x2, x3, x4, x5, _ => ⟨x2, x3, x4, x5, rfl⟩
  | k :: r, x2, x3, x4, x5, h => by
    obtain ⟨h4, hn⟩ := h k (by simp)
    obtain ⟨g, b⟩ := l2m (K := K) (x := x) (x2 := x2) (x3 := x3) (x4 := x4) (x5 := x5) (n := n) h4
    obtain ⟨y4, y5, e⟩ := mkI_no (K := K) (x := x) (k := k.k) (x3 := some (.tup (k.ms.map Mk.d))) (n := n) k.ms x4 x5 hn
    obtain ⟨z2, z3, z4, z5, e2⟩ := mkO_no (K := K) (x := x) (n := n) r (some (.str k.k)) (some (.tup (k.ms.map Mk.d))) y4 y5 fun q hq => h q (by simp [hq])
    exact ⟨z2, z3, z4, z5, (fM_next g (b.trans e)).trans e2⟩
theorem mkO_yes {K : D} {th : List Str} {n : Nat} {q : Kd} {mk : Mk} (hm : mk ∈ q.ms) (tl : List D) : ∀ (ks : List Kd) (i : Nat) (kn : List Str) (x2 x3 x4 x5 : Option D), (∀ k ∈ ks, k.ms.length ≤ 4) → wmO th i kn ks = none → q ∈ ks → fM (gT (gsC (gN 2) (gsC (gN 3) gsN))) l2_maker (ks.map Kd.d ++ tl) [some K, some (.str mk.w), x2, x3, x4, x5] n = some (.ret (.tup [.str q.k, .tup (mk.ps.map .str)]), n)
  | k :: r, i, kn, x2, x3, x4, x5, h4, h, hq => by
    have h' : (match wmI th 0 kn k.ms with
      | .inl j => some (i, j)
      | .inr kn' => wmO th (i + 1) kn' r) = none := h
    obtain ⟨g, b⟩ := l2m (K := K) (x := mk.w) (k := k) (x2 := x2) (x3 := x3) (x4 := x4) (x5 := x5) (n := n) (h4 k (by simp))
    cases c : wmI th 0 kn k.ms with
    | inl j => rw [c] at h'; cases h'
    | inr kn' =>
      rw [c] at h'
      obtain ⟨h1, h2, h3⟩ := wmI_ok c
      rcases List.mem_cons.mp hq with rfl | hq
      · exact fM_ret g (b.trans (mkI_yes q.ms x4 x5 hm h3))
      · obtain ⟨y4, y5, e⟩ := mkI_no (K := K) (x := mk.w) (k := k.k) (x3 := some (.tup (k.ms.map Mk.d))) (n := n) k.ms x4 x5 fun m' hm' e => wmO_not h' q hq mk hm (by rw [h1, ← e]; exact List.mem_append_right _ (List.mem_map_of_mem hm'))
        exact (fM_next g (b.trans e)).trans (mkO_yes hm tl r (i + 1) kn' _ _ _ _ (fun t ht => h4 t (by simp [ht])) h' hq)
theorem mk_it {ks : List Kd} {x : D} {n : Nat} (h : ks.length ≤ 4) : iSeq (e2 fAdd (eVar 0) (eTup (aCons (eTup (aCons (eC (.str ("truth" : Str))) (aCons (eTup (aCons (eTup (aCons (eC (.str ("yes" : Str))) (aCons (eTup aNil) aNil))) (aCons (eTup (aCons (eC (.str ("no" : Str))) (aCons (eTup aNil) aNil))) aNil))) aNil))) aNil))) [some (.tup (ks.map Kd.d)), some x, none, none, none, none] n = some (ks.map Kd.d ++ [kT.d], n) := by
  refine iSeq_e (e2_e (eVar_e rfl) (eTup_e (aCons_e (eTup_e (aCons_e rfl (aCons_e (eTup_e (aCons_e (eTup_e (aCons_e rfl (aCons_e (eTup_e aNil_e) aNil_e))) (aCons_e (eTup_e (aCons_e rfl (aCons_e (eTup_e aNil_e) aNil_e))) aNil_e))) aNil_e))) aNil_e)) (add_tup ?_)) (items_tup ?_)
  · rw [List.length_map]; simp; omega
  · rw [List.length_append, List.length_map]; simp; omega
theorem mk_no {ks : List Kd} {x : Str} {n : Nat} (h : KsIn ks) (hx : ∀ k ∈ ks, ∀ m ∈ k.ms, m.w ≠ x) (h1 : ("yes" : Str) ≠ x) (h2 : ("no" : Str) ≠ x) : F_mk [.tup (ks.map Kd.d), .str x] n = some (.non, n) := by
  refine fn_ret rfl ?_
  show b_maker [some (.tup (ks.map Kd.d)), some (.str x), none, none, none, none] n = _
  unfold b_maker
  have e0 : ks.map Kd.d ++ [kT.d] = (ks ++ [kT]).map Kd.d := by rw [List.map_append]; rfl
  obtain ⟨y2, y3, y4, y5, e⟩ := mkO_no (K := .tup (ks.map Kd.d)) (x := x) (n := n) (ks ++ [kT]) none none none none fun k hk => by
    rcases List.mem_append.mp hk with hk | hk
    · exact ⟨(h.2 k hk).2.2.1, hx k hk⟩
    · rw [List.mem_singleton.mp hk]
      refine ⟨by decide, fun m hm => ?_⟩
      have : m = ⟨"yes", []⟩ ∨ m = ⟨"no", []⟩ := by simpa [kT] using hm
      rcases this with rfl | rfl
      · exact h1
      · exact h2
  exact (bSeq_n ((sFor_i (mk_it h.1)).trans (by rw [e0]; exact e))).trans (sRet_r rfl)
theorem mk_yes {ks : List Kd} {q : Kd} {mk : Mk} {n : Nat} (h : KsIn ks) (hw : wmO (thr ks) 0 ["yes", "no"] ks = none) (hq : q ∈ ks) (hm : mk ∈ q.ms) : F_mk [.tup (ks.map Kd.d), .str mk.w] n = some (.tup [.str q.k, .tup (mk.ps.map .str)], n) := by
  refine fn_ret rfl ?_
  show b_maker [some (.tup (ks.map Kd.d)), some (.str mk.w), none, none, none, none] n = _
  unfold b_maker
  exact bSeq_r ((sFor_i (mk_it h.1)).trans (mkO_yes hm [kT.d] ks 0 ["yes", "no"] _ _ _ _ (fun k hk => (h.2 k hk).2.2.1) hw hq))
theorem hd_no {k m x : Str} {n : Nat} (hx : ("first" : Str) ≠ x) : G_hd [.tup [fun1 k m], .str x] n = some (.non, n) := by
  refine fn_ret rfl ?_
  show b_head [some (.tup [fun1 k m]), some (.str x), none] n = _
  unfold b_head
  refine (bSeq_n (ρ' := [some (.tup [fun1 k m]), some (.str x), some (fun1 k m)]) ((sFor_i (iSeq_e (eVar_e rfl) (items_tup (by simp)))).trans ((fM_next (ρ1 := [some (.tup [fun1 k m]), some (.str x), some (fun1 k m)]) rfl ?_).trans fM_nil))).trans (sRet_r rfl)
  unfold l1_head
  exact (sIf_f (tEq_f (x := "first") (y := x) (e2_e (eVar_e rfl) rfl rfl) (eVar_e rfl) hx)).trans rfl
end Sh


set_option Elab.async false
set_option linter.all false
set_option maxRecDepth 100000
namespace Sh
open PySem L2 Nf
/-! the law's first wrong place -/
def G_wg : List D → M D := fnA 5 11 (b_wrong F_no F_no G_hd F_mk)
def G_wr : List D → M D := fnA 3 14 (b_l_wrong_rule G_wg F_no)
def G_fi : List D → M D := fnA 2 12 (b_first G_wr F_mk F_wk G_fm)
theorem wg_f {ks : List Kd} {q : Kd} {mk : Mk} {n : Nat} (h : KsIn ks) (hw : wmO (thr ks) 0 ["yes", "no"] ks = none) (hq : q ∈ ks) (hm : mk ∈ q.ms) (hp : mk.ps = []) :
    G_wg [.tup [.tup (ks.map Kd.d), .tup [fun1 q.k mk.w]], .dk [] [], rgt mk.w, .str q.k, .tup []] n = some (.non, n) := by
  have e1 := mk_yes (n := n) h hw hq hm
  rw [hp] at e1
  have e2' : G_hd [.tup [fun1 q.k mk.w], .str mk.w] n = some (.non, n) := hd_no (Ne.symm (first_mws _ ((h.2 q hq).2.2.2 mk hm).1))
  refine fn_ret rfl ?_
  show b_wrong F_no F_no G_hd F_mk [some (.tup [.tup (ks.map Kd.d), .tup [fun1 q.k mk.w]]), some (.dk [] []), some (rgt mk.w), some (.str q.k), some (.tup []), none, none, none, none, none, none] n = _
  unfold b_wrong
  refine (bSeq_n ((sIf_f (tEq_f (x := "made") (y := "name") (e2_e (eVar_e rfl) rfl rfl) rfl)).trans rfl)).trans ?_
  refine (bSeq_n ((sIf_f (tAn_f (tEq_f (x := "made") (y := "same") (e2_e (eVar_e rfl) rfl rfl) rfl))).trans rfl)).trans ?_
  refine (bSeq_n (ρ' := [some (.tup [.tup (ks.map Kd.d), .tup [fun1 q.k mk.w]]), some (.dk [] []), some (rgt mk.w), some (.str q.k), some (.tup []), some (.tup []), none, none, some (.tup []), some (.tup [.str q.k, .tup []]), none]) ((sIf_f (trB_e (x := .bl false) (e2_e (e2_e (eVar_e rfl) rfl (z := .str "made") rfl) (eLst_e (aCons_e rfl (aCons_e rfl aNil_e))) rfl) rfl)).trans ?_)).trans ((bSeq_n ((sFor_i (i1_e (eVar_e rfl) (enum_tup (xs := []) (by simp)))).trans fM_nil)).trans (sRet_r rfl))
  refine (bSeq_n (sSet_n (e2_e (eLst_e (aCons_e (eCall_e (aCons_e (e2_e (eVar_e rfl) rfl rfl) (aCons_e (e2_e (eVar_e rfl) rfl rfl) aNil_e)) e1) (aCons_e (eCall_e (aCons_e (e2_e (eVar_e rfl) rfl rfl) (aCons_e (e2_e (eVar_e rfl) rfl rfl) aNil_e)) e2') aNil_e))) (eF_e (aCons_e (e2_e (e2_e (eVar_e rfl) rfl (z := .str "made") rfl) rfl eq_str) aNil_e) (d := .int 0) (by rw [decide_eq_false (by decide +kernel)]; rfl)) (z := .tup [.str q.k, .tup []]) rfl))).trans ?_
  refine (bSeq_n ((sIf_f ((tOr_f (trB_e (x := .bl false) (e2_e (eVar_e rfl) rfl rfl) rfl)).trans ((tOr_f (trB_e (x := .bl false) (e2_e (e2_e (eVar_e rfl) rfl (z := .str q.k) rfl) (eVar_e rfl) ?_) rfl)).trans (trB_e (x := .bl false) (e2_e (eF_e (aCons_e (e2_e (eVar_e rfl) rfl (z := .tup []) rfl) aNil_e) rfl) (eF_e (aCons_e (e2_e (eVar_e rfl) rfl (z := .tup []) rfl) aNil_e) rfl) rfl) rfl)))).trans rfl)).trans ?_
  · show some (D.bl (!(decide (q.k = q.k)))) = _
    simp
  exact (bSeq_n (sSet_n (e2_e (eVar_e rfl) rfl rfl))).trans (sSet_n (e2_e (eVar_e rfl) rfl rfl))
theorem gwr_f {ks : List Kd} {q : Kd} {mk : Mk} {n : Nat} (h : KsIn ks) (hw : wmO (thr ks) 0 ["yes", "no"] ks = none) (hq : q ∈ ks) (hm : mk ∈ q.ms) (hp : mk.ps = []) :
    G_wr [.tup [.tup (ks.map Kd.d), .tup [fun1 q.k mk.w]], .int (0 : Nat), .int (0 : Nat)] n = some (.non, n) := by
  refine fn_ret rfl ?_
  show b_l_wrong_rule G_wg F_no [some (.tup [.tup (ks.map Kd.d), .tup [fun1 q.k mk.w]]), some (.int (0 : Nat)), some (.int (0 : Nat)), none, none, none, none, none, none, none, none, none, none, none] n = _
  unfold b_l_wrong_rule
  refine (bSeq_n (sAsg_n (e2_e (e2_e (eVar_e rfl) rfl rfl) (eVar_e rfl) (z := fun1 q.k mk.w) rfl) rfl)).trans ((bSeq_n (sAsg_n (e2_e (eVar_e rfl) (eVar_e rfl) (z := rul mk.w) rfl) rfl)).trans ?_)
  refine (bSeq_n ((sIf_f (trB_e (x := .bl false) (e2_e (eF_e (aCons_e (eVar_e rfl) aNil_e) rfl) (eF_e (aCons_e (eVar_e rfl) aNil_e) rfl) rfl) rfl)).trans rfl)).trans ((bSeq_n (sSet_n rfl)).trans ((bSeq_n ((sFor_i (i1_e (eVar_e rfl) (enum_tup (xs := []) (by simp)))).trans fM_nil)).trans ?_))
  refine (bSeq_n (sSet_n (eCall_e (aCons_e (eVar_e rfl) (aCons_e (eVar_e rfl) (aCons_e (eVar_e rfl) (aCons_e (eVar_e rfl) (aCons_e (eTup_e aNil_e) aNil_e))))) (wg_f h hw hq hm hp)))).trans ((bSeq_n ((sIf_f (trB_e (x := .bl false) (e2_e (eVar_e rfl) rfl rfl) rfl)).trans rfl)).trans ?_)
  exact sRet_r (e2_e (eLst_e (aCons_e rfl (aCons_e (eTup_e (aCons_e rfl (aCons_e (eVar_e rfl) (aCons_e (eVar_e rfl) (aCons_e (eTup_e aNil_e) aNil_e))))) aNil_e))) (eF_e (aCons_e (e2_e (eF_e (aCons_e (e1_e (eVar_e rfl) rfl) aNil_e) rfl) rfl (z := .bl false) rfl) aNil_e) rfl) rfl)
theorem names_e {ks : List Kd} {x1 x2 x3 x4 x5 x6 x7 x8 x9 x10 x11 : Option D} {n : Nat} (h : ks.length ≤ 4) : e2 fAdd (eLc (iSeq (eVar 0)) (gN 10) tY (e2 fDG (eVar 10) (eC (.int 0))) [10]) (eLst (aCons (eC (.str ("truth" : Str))) aNil)) [some (.tup (ks.map Kd.d)), x1, x2, x3, x4, x5, x6, x7, x8, x9, x10, x11] n = some (.lst ((ks.map Kd.k ++ [("truth" : Str)]).map .str), n) := by
  have e : eLc (iSeq (eVar 0)) (gN 10) tY (e2 fDG (eVar 10) (eC (.int 0))) [10] [some (.tup (ks.map Kd.d)), x1, x2, x3, x4, x5, x6, x7, x8, x9, x10, x11] n = some (.lst (ks.map fun k => .str k.k), n) :=
    eLc_e (iSeq_e (eVar_e rfl) (items_tup (by rw [List.length_map]; omega))) (lcM_map (f := Kd.d) (h := fun k => D.str k.k) ks fun k _ => ⟨_, rfl, e2_e (eVar_e rfl) rfl rfl⟩)
  refine e2_e e (eLst_e (aCons_e rfl aNil_e)) ?_
  rw [List.map_append, List.map_map]
  show szl _ _ = _
  unfold szl
  rw [if_pos]
  · rfl
  · rw [List.length_map, PySem.sizeLine_eq]; simp; omega
/-- the law's first wrong place is that of the kinds -/
theorem gfi_f {ks : List Kd} {d : D} {n : Nat} (h : KsIn ks) (hd : d = .tup [] ∨ ∃ q ∈ ks, ∃ mk ∈ q.ms, mk.ps = [] ∧ d = .tup [fun1 q.k mk.w]) : G_fi [.tup (ks.map Kd.d), d] n = some (wkD ks, n) := by
  have hwk : F_wk [.tup (ks.map Kd.d)] n = some (wkD ks, n) := wk_f h.sm (ok_ps h)
  have hfm : G_fm [.tup (ks.map Kd.d), d] n = some (.bl true, n) := by
    rcases hd with rfl | ⟨q, hq, mk, hm, _, rfl⟩
    · exact gfm_f h (by simp) fun f hf => nomatch hf
    · exact gfm_f h (by simp) fun f hf => by rw [List.mem_singleton.mp hf]; exact gff_f (h.2 q hq).1 ((h.2 q hq).2.2.2 mk hm).1
  refine fn_ret rfl ?_
  show b_first G_wr F_mk F_wk G_fm [some (.tup (ks.map Kd.d)), some d, none, none, none, none, none, none, none, none, none, none] n = _
  unfold b_first
  refine (bSeq_n ((sIf_f (tNt_e (b := true) (trB_e (eCall_e (aCons_e (eVar_e rfl) (aCons_e (eVar_e rfl) aNil_e)) hfm) rfl))).trans rfl)).trans ((bSeq_n (sSet_n (eCall_e (aCons_e (eVar_e rfl) aNil_e) hwk))).trans ?_)
  by_cases hn : wkD ks = .non
  · rw [hn]
    refine (bSeq_n ((sIf_f (trB_e (x := .bl false) (e2_e (eVar_e rfl) rfl rfl) rfl)).trans rfl)).trans ((bSeq_n (sSet_n (names_e h.1))).trans ?_)
    rcases hd with rfl | ⟨q, hq, mk, hm, hp, rfl⟩
    · exact (bSeq_n ((sFor_i (i1_e (eVar_e rfl) (enum_tup (xs := []) (by simp)))).trans fM_nil)).trans ((bSeq_n ((sFor_i (i1_e (eF_e (aCons_e (eVar_e rfl) aNil_e) (d := .int (0 : Nat)) rfl) (ds := []) rfl)).trans fM_nil)).trans (sRet_r rfl))
    · have hw := wk_wm hn
      have e1 : F_mk [.tup (ks.map Kd.d), .str "first"] n = some (.non, n) := mk_no h (fun k hk m hm => first_mws _ ((h.2 k hk).2.2.2 m hm).1) (by decide +kernel) (by decide +kernel)
      refine (bSeq_n (m := n) (ρ' := [some (.tup (ks.map Kd.d)), some (.tup [fun1 q.k mk.w]), some .non, some (.lst ((ks.map Kd.k ++ [("truth" : Str)]).map .str)), some (.int (0 : Nat)), some (.str "first"), some (.tup []), some (.str q.k), some (.tup [rul mk.w]), none, none, none]) ((sFor_i (i1_e (eVar_e rfl) (enum_tup (by simp)))).trans ((fM_next (ρ1 := [some (.tup (ks.map Kd.d)), some (.tup [fun1 q.k mk.w]), some .non, some (.lst ((ks.map Kd.k ++ [("truth" : Str)]).map .str)), some (.int (0 : Nat)), some (.str "first"), some (.tup []), some (.str q.k), some (.tup [rul mk.w]), none, none, none]) rfl ?_).trans fM_nil))).trans ?_
      · unfold l3_first
        refine (bSeq_n ((sIf_f ((tOr_f (trB_e (x := .bl false) (e2_e (eCall_e (aCons_e (eVar_e rfl) (aCons_e (eVar_e rfl) aNil_e)) e1) rfl rfl) rfl)).trans (trB_e (x := .bl false) (e2_e (eVar_e rfl) (y := .lst []) rfl rfl) rfl))).trans rfl)).trans ((sIf_f ((tOr_f (trB_e (x := .bl false) (e2_e (eVar_e rfl) (eVar_e rfl) ?_) rfl)).trans (trB_e (x := .bl false) (e2_e (y := .lst []) rfl (eLst_e aNil_e) rfl) rfl))).trans rfl)
        rw [notin_l]
        have : (ks.map Kd.k ++ [("truth" : Str)]).contains q.k = true := List.contains_iff_mem.mpr (List.mem_append_left _ (List.mem_map_of_mem hq))
        rw [this]; rfl
      · refine (bSeq_n (ρ' := [some (.tup (ks.map Kd.d)), some (.tup [fun1 q.k mk.w]), some .non, some (.lst ((ks.map Kd.k ++ [("truth" : Str)]).map .str)), some (.int (0 : Nat)), some (.str "first"), some (.tup []), some (.str q.k), some (.tup [rul mk.w]), some (.int (0 : Nat)), none, none]) ((sFor_i (i1_e (eF_e (aCons_e (eVar_e rfl) aNil_e) (d := .int (1 : Nat)) rfl) (ds := [.int (0 : Nat)]) rfl)).trans ((fM_next (ρ1 := [some (.tup (ks.map Kd.d)), some (.tup [fun1 q.k mk.w]), some .non, some (.lst ((ks.map Kd.k ++ [("truth" : Str)]).map .str)), some (.int (0 : Nat)), some (.str "first"), some (.tup []), some (.str q.k), some (.tup [rul mk.w]), none, none, none]) rfl ?_).trans fM_nil))).trans (sRet_r rfl)
        unfold l2_first
        refine (sFor_i (i1_e (eF_e (aCons_e (e2_e (e2_e (eVar_e rfl) (eVar_e rfl) rfl) rfl (z := .tup [rul mk.w]) rfl) aNil_e) (d := .int (1 : Nat)) rfl) (ds := [.int (0 : Nat)]) rfl)).trans ((fM_next (ρ1 := [some (.tup (ks.map Kd.d)), some (.tup [fun1 q.k mk.w]), some .non, some (.lst ((ks.map Kd.k ++ [("truth" : Str)]).map .str)), some (.int (0 : Nat)), some (.str "first"), some (.tup []), some (.str q.k), some (.tup [rul mk.w]), some (.int (0 : Nat)), none, none]) rfl ?_).trans fM_nil)
        unfold l1_first
        exact (bSeq_n (sSet_n (eCall_e (aCons_e (eTup_e (aCons_e (eVar_e rfl) (aCons_e (eVar_e rfl) aNil_e))) (aCons_e (eVar_e rfl) (aCons_e (eVar_e rfl) aNil_e))) (gwr_f h hw hq hm hp)))).trans ((sIf_f (trB_e (x := .bl false) (e2_e (eVar_e rfl) rfl rfl) rfl)).trans rfl)
  · have isn : trB (e2 fIsNot (eVar 2) (eC .non)) [some (.tup (ks.map Kd.d)), some d, some (wkD ks), none, none, none, none, none, none, none, none, none] n = some (true, n) := by
      refine trB_e (x := .bl true) (e2_e (eVar_e rfl) rfl ?_) rfl
      cases c : wkD ks with
      | non => exact absurd c hn
      | _ => rfl
    exact bSeq_r ((sIf_t isn).trans (sRet_r (eVar_e rfl)))
end Sh


set_option Elab.async false
set_option linter.all false
set_option maxRecDepth 100000
set_option maxHeartbeats 1000000
/-! which refusal an error is -/
namespace Sh
open PySem L2 Nf
/-- the classes of errors -/
structure Ers (K : PySem.W.Frag) (mg : Str → Option Value) : Prop where
  g : ∀ x ∈ erN, mg x = some (.ref (He.ga K x))
  ve : mg "ValueError" = none
  kE : ExcC K (He.ga K "BadProgram")
  kO : OexC K (He.ga K "BadProgram")
  kX : XfC K (He.ga K "BadProgram")
  no : PySem.W.findIn K (.ref (He.ga K "BadProgram")) "place" = some none
  kit : ∀ x ∈ erN, PySem.W.kitOne K (.ref (He.ga K "BadProgram")) (.ref (He.ga K x)) = some (decide (x = "BadProgram") || decide (x = "FillError"))
  kitV : PySem.W.kitOne K (.ref (He.ga K "BadProgram")) (.type "ValueError") = some true
  exm : PySem.W.exmOne K (.ref (He.ga K "BadProgram")) (.ref (He.ga K "FillError")) = some true
section
variable {P : Program} {w : World} {K : PySem.W.Frag} {mg : Str → Option Value} {base : Heap}
abbrev s_refused : Stmt := top 103
abbrev N_refused : List Str := ["_law_error", "_law_so", "_law_found", "_law_word"]
abbrev P_refused : List Str := ["_law_error"]
theorem sc_refused : FnScope N_refused P_refused (defScope s_refused) := ⟨rfl, rfl, rfl, by decide +kernel, rfl, by decide +kernel, by decide +kernel⟩
abbrev kS (x : Str) : Key := .inr x
def spRef (K : PySem.W.Frag) : Sp := fun vs H Q _ => ∃ (a dd : Addr) (fs : List (Str × V)), vs = [.ref a] ∧ H a = some (XO (.ref (He.ga K "BadProgram")) (some dd) a) ∧ H dd = some (.xd fs) ∧ ∀ H', Same H H' → Q (.str "BadProgram") H'
theorem pe_isB {X : Cx} {i : Nat} {C : Str} {p p1 p2 pos : Pos} (T : Bt X.mg) (E : Ers X.K X.mg) (hC : C ∈ erN) (h0 : PE X (.Name "_law_error" p1) (tVar i)) (hg : Gl X "isinstance") (hgc : Gl X C) (hd : (C == ("__debug__" : Str)) = false)
    (he : starEach [.Name "_law_error" p1, .Name C p2] X.env = (false, eval (.Name "_law_error" p1) X.env) :: starEach [.Name C p2] X.env := by rfl) (he2 : starEach [.Name C p2] X.env = (false, eval (.Name C p2) X.env) :: starEach [] X.env := by rfl) (hpl : (backTo pos (starEach [.Name C p2] X.env)).any (·.1) = false := by rfl) :
    PE X (.Call (.Name "isinstance" p) [.Name "_law_error" p1, .Name C p2] [] pos) (fun σ H Q => ∃ (a dd : Addr) (fs : List (Str × V)), σ[i]? = some (some (.ref a)) ∧ H a = some (XO (.ref (He.ga X.K "BadProgram")) (some dd) a) ∧ H dd = some (.xd fs) ∧ Q (.bl (decide (C = "BadProgram") || decide (C = "FillError"))) H) :=
  PE.wk (pe_callB call_isX hg T.t_isinstance (by decide +kernel) (pa_cons h0 (pa_cons (pe_glob (v := .ref (He.ga X.K C)) hgc (E.g C hC) rfl hd) pa_nil he2) he) (by decide) (by decide) he hpl) fun σ H Q ⟨a, dd, fs, h1, h2, h3, q⟩ =>
    ⟨_, h1, a, _, _, _, _, _, rfl, h2, ⟨dd, fs, rfl, h3⟩, E.kE, fun u r => r, E.kit C hC, q⟩
theorem pe_isVE {X : Cx} {i : Nat} {p p1 p2 pos : Pos} (T : Bt X.mg) (E : Ers X.K X.mg) (h0 : PE X (.Name "_law_error" p1) (tVar i)) (hg : Gl X "isinstance") (hgc : Gl X "ValueError")
    (he : starEach [.Name "_law_error" p1, .Name "ValueError" p2] X.env = (false, eval (.Name "_law_error" p1) X.env) :: starEach [.Name "ValueError" p2] X.env := by rfl) (he2 : starEach [.Name "ValueError" p2] X.env = (false, eval (.Name "ValueError" p2) X.env) :: starEach [] X.env := by rfl) (hpl : (backTo pos (starEach [.Name "ValueError" p2] X.env)).any (·.1) = false := by rfl) :
    PE X (.Call (.Name "isinstance" p) [.Name "_law_error" p1, .Name "ValueError" p2] [] pos) (fun σ H Q => ∃ (a dd : Addr) (fs : List (Str × V)), σ[i]? = some (some (.ref a)) ∧ H a = some (XO (.ref (He.ga X.K "BadProgram")) (some dd) a) ∧ H dd = some (.xd fs) ∧ Q (.bl true) H) :=
  PE.wk (pe_callB call_isX hg T.t_isinstance (by decide +kernel) (pa_cons h0 (pa_cons (pe_bltn (v := .ty "ValueError") hgc E.ve (by decide +kernel) rfl) pa_nil he2) he) (by decide) (by decide) he hpl) fun σ H Q ⟨a, dd, fs, h1, h2, h3, q⟩ =>
    ⟨_, h1, a, _, _, _, _, _, rfl, h2, ⟨dd, fs, rfl, h3⟩, E.kE, fun u r => r, E.kitV, q⟩
set_option maxHeartbeats 0 in
theorem ok_refused {f : Addr} {fd : FuncData} (T : Bt mg) (E : Ers K mg) (C_refused : Cal K mg "_law_refused" s_refused P_refused f fd) : FnOk P w K mg base CX0 1 f fd P_refused (spRef K) := by
  refine C_refused.F.ok sc_refused (fun vs H Q E h => ?_) (fun cdv A outer s H vs Q E' hr h => ?_)
  · obtain ⟨a, dd, fs, rfl, _⟩ := h
    rfl
  obtain ⟨a, dd, fs, rfl, ha, hd, q⟩ := h
  refine ⟨_, PSs.nox (pss_cons (ps_set (i := 1) sc_refused.nd rfl (Or.inr rfl) (pe_disp (pps_cons pe_str (pe_isB T E (by decide) (pv 0) rfl rfl (by decide)) (pps_cons pe_str (pe_isB T E (by decide) (pv 0) rfl rfl (by decide)) pps_nil)) rfl rfl (by simp) (by decide)))
    (pss_cons (ps_expr (pe_bm PySem.F.plainAttrs_dict PySem.F.slot_dict_update PySem.F.type_dict_update mt_update (pv 1) (pa_cons (pe_disp (pps_cons pe_str (pe_isB T E (by decide) (pv 0) rfl rfl (by decide)) (pps_cons pe_str (pe_isB T E (by decide) (pv 0) rfl rfl (by decide)) pps_nil)) rfl rfl (by simp) (by decide)) pa_nil)))
    (pss_cons (ps_expr (pe_bm PySem.F.plainAttrs_dict PySem.F.slot_dict_update PySem.F.type_dict_update mt_update (pv 1) (pa_cons (pe_disp (pps_cons pe_str (pe_isB T E (by decide) (pv 0) rfl rfl (by decide)) (pps_cons pe_str (pe_isB T E (by decide) (pv 0) rfl rfl (by decide)) pps_nil)) rfl rfl (by simp) (by decide)) pa_nil)))
    (pss_cons (ps_expr (pe_bm PySem.F.plainAttrs_dict PySem.F.slot_dict_update PySem.F.type_dict_update mt_update (pv 1) (pa_cons (pe_disp (pps_cons pe_str (pe_isB T E (by decide) (pv 0) rfl rfl (by decide)) (pps_cons pe_str (pe_isB T E (by decide) (pv 0) rfl rfl (by decide)) pps_nil)) rfl rfl (by simp) (by decide)) pa_nil)))
    (pss_cons (ps_expr (pe_bm PySem.F.plainAttrs_dict PySem.F.slot_dict_update PySem.F.type_dict_update mt_update (pv 1) (pa_cons (pe_disp (pps_cons pe_str (pe_isB T E (by decide) (pv 0) rfl rfl (by decide)) (pps_cons pe_str (pe_isB T E (by decide) (pv 0) rfl rfl (by decide)) pps_nil)) rfl rfl (by simp) (by decide)) pa_nil)))
    (pss_cons (ps_lock (ps_setLc (i := 2) (own := [("_law_word", 3)]) (g := gName 3) (tt := fun σ H Q => tDGet (tVar 1) (tVar 3) σ H fun x H' => ∃ k, TruV K x H' k ∧ Q k H') (te := tVar 3) rfl sc_refused.nd rfl rfl (sw_true rfl rfl rfl (by decide +kernel)) (pi_keys (pv 1)) (blkOk_by (own := [("_law_word", 3)]) (N := N_refused) (sc := defScope s_refused) (by decide +kernel))
      (fun _ _ _ _ _ => pg_name (i := 3) sc_refused.nd rfl (Or.inl rfl)) (fun _ _ _ _ _ => pts_one (pt_truth (pe_dget (by have := hr.units; exact Nat.lt_of_le_of_lt (Nat.add_le_add_left (by decide) _) this) (pv 1) (pv 3) (fun _ _ => rfl)) (by intro _; rfl))) (fun _ _ _ _ _ => pv 3)))
    (pss_cons (ps_if (PW.pt (pw_or (pt_cmpR op_ne (pe_callB call_len_seq (by rfl) T.t_len PySem.boot_len (pa_cons (pv 2) pa_nil)) pe_int (nomark _)) (pw_or (pt_not (pt_truth (pe_isB T E (by decide) (pv 0) rfl rfl (by decide)) (by intro _; rfl))) (pw_or1 (pt_not (pt_truth (pe_isVE T E (pv 0) rfl rfl) (by intro _; rfl))))))) (pss_one (ps_ret pe_str)) pss_nil)
    (pss_one (ps_ret (pe_ix ix_list (pv 2) pe_int (fun _ _ => rfl))))))))))), ?_⟩
  refine fun p hp => ?_
  have S0 : Same H (upd H p (.dK [])) := same_new hp _
  refine ⟨a, dd, fs, rfl, S0 _ _ ha, S0 _ _ hd, a, dd, fs, rfl, S0 _ _ ha, S0 _ _ hd, upd_same, [(kS "BadProgram", .bl true), (kS "BadNames", .bl false)], rfl, by decide, ?_⟩
  have e0 : mergeK [] ([(kS "BadProgram", .bl true), (kS "BadNames", .bl false)] : List (Key × V)) = [(kS "BadProgram", .bl true), (kS "BadNames", .bl false)] := rfl
  rw [e0]
  have A1 : upd (upd H p (.dK [])) p (.dK [(kS "BadProgram", .bl true), (kS "BadNames", .bl false)]) p = some (.dK [(kS "BadProgram", .bl true), (kS "BadNames", .bl false)]) := upd_same
  have S1 : Same H (upd (upd H p (.dK [])) p (.dK [(kS "BadProgram", .bl true), (kS "BadNames", .bl false)])) := S0.mutN hp
  generalize upd (upd H p (.dK [])) p (.dK [(kS "BadProgram", .bl true), (kS "BadNames", .bl false)]) = H1 at A1 S1
  refine ⟨.ref p, rfl, .inr (.inr (.inl ⟨rfl, .inl ⟨_, A1⟩⟩)), fun q1 hq1 => ?_⟩
  have B1 : Same H (upd H1 q1 (.dK [])) := S1.new hq1
  have n1 : p ≠ q1 := ne_of_none A1 hq1
  have m1 : mergeK [] ([(kS "BadSaying", .bl false), (kS "NoTable", .bl false)] : List (Key × V)) = [(kS "BadSaying", .bl false), (kS "NoTable", .bl false)] := rfl
  have r1 : mergeK [(kS "BadProgram", .bl true), (kS "BadNames", .bl false)] ([(kS "BadSaying", .bl false), (kS "NoTable", .bl false)] : List (Key × V)) = [(kS "BadProgram", .bl true), (kS "BadNames", .bl false), (kS "BadSaying", .bl false), (kS "NoTable", .bl false)] := rfl
  refine ⟨a, dd, fs, rfl, B1 _ _ ha, B1 _ _ hd, a, dd, fs, rfl, B1 _ _ ha, B1 _ _ hd, upd_same, [(kS "BadSaying", .bl false), (kS "NoTable", .bl false)], rfl, by decide, p, q1, [(kS "BadProgram", .bl true), (kS "BadNames", .bl false)], [(kS "BadSaying", .bl false), (kS "NoTable", .bl false)], rfl, rfl, n1, ?_, ?_, by show _ ≤ sizeLine; decide, ?_⟩
  · rw [upd_ne n1, upd_ne n1]; exact A1
  · rw [m1]; exact upd_same
  rw [m1, r1]
  have A2 : upd (upd (upd H1 q1 (.dK [])) q1 (.dK [(kS "BadSaying", .bl false), (kS "NoTable", .bl false)])) p (.dK [(kS "BadProgram", .bl true), (kS "BadNames", .bl false), (kS "BadSaying", .bl false), (kS "NoTable", .bl false)]) p = some (.dK [(kS "BadProgram", .bl true), (kS "BadNames", .bl false), (kS "BadSaying", .bl false), (kS "NoTable", .bl false)]) := upd_same
  have S2 : Same H (upd (upd (upd H1 q1 (.dK [])) q1 (.dK [(kS "BadSaying", .bl false), (kS "NoTable", .bl false)])) p (.dK [(kS "BadProgram", .bl true), (kS "BadNames", .bl false), (kS "BadSaying", .bl false), (kS "NoTable", .bl false)])) := (B1.mutN (S1.free hq1)).mutN hp
  generalize upd (upd (upd H1 q1 (.dK [])) q1 (.dK [(kS "BadSaying", .bl false), (kS "NoTable", .bl false)])) p (.dK [(kS "BadProgram", .bl true), (kS "BadNames", .bl false), (kS "BadSaying", .bl false), (kS "NoTable", .bl false)]) = H2 at A2 S2
  refine ⟨.ref p, rfl, .inr (.inr (.inl ⟨rfl, .inl ⟨_, A2⟩⟩)), fun q2 hq2 => ?_⟩
  have B2 : Same H (upd H2 q2 (.dK [])) := S2.new hq2
  have n2 : p ≠ q2 := ne_of_none A2 hq2
  have m2 : mergeK [] ([(kS "TooWide", .bl false), (kS "BadTurns", .bl false)] : List (Key × V)) = [(kS "TooWide", .bl false), (kS "BadTurns", .bl false)] := rfl
  have r2 : mergeK [(kS "BadProgram", .bl true), (kS "BadNames", .bl false), (kS "BadSaying", .bl false), (kS "NoTable", .bl false)] ([(kS "TooWide", .bl false), (kS "BadTurns", .bl false)] : List (Key × V)) = [(kS "BadProgram", .bl true), (kS "BadNames", .bl false), (kS "BadSaying", .bl false), (kS "NoTable", .bl false), (kS "TooWide", .bl false), (kS "BadTurns", .bl false)] := rfl
  refine ⟨a, dd, fs, rfl, B2 _ _ ha, B2 _ _ hd, a, dd, fs, rfl, B2 _ _ ha, B2 _ _ hd, upd_same, [(kS "TooWide", .bl false), (kS "BadTurns", .bl false)], rfl, by decide, p, q2, [(kS "BadProgram", .bl true), (kS "BadNames", .bl false), (kS "BadSaying", .bl false), (kS "NoTable", .bl false)], [(kS "TooWide", .bl false), (kS "BadTurns", .bl false)], rfl, rfl, n2, ?_, ?_, by show _ ≤ sizeLine; decide, ?_⟩
  · rw [upd_ne n2, upd_ne n2]; exact A2
  · rw [m2]; exact upd_same
  rw [m2, r2]
  have A3 : upd (upd (upd H2 q2 (.dK [])) q2 (.dK [(kS "TooWide", .bl false), (kS "BadTurns", .bl false)])) p (.dK [(kS "BadProgram", .bl true), (kS "BadNames", .bl false), (kS "BadSaying", .bl false), (kS "NoTable", .bl false), (kS "TooWide", .bl false), (kS "BadTurns", .bl false)]) p = some (.dK [(kS "BadProgram", .bl true), (kS "BadNames", .bl false), (kS "BadSaying", .bl false), (kS "NoTable", .bl false), (kS "TooWide", .bl false), (kS "BadTurns", .bl false)]) := upd_same
  have S3 : Same H (upd (upd (upd H2 q2 (.dK [])) q2 (.dK [(kS "TooWide", .bl false), (kS "BadTurns", .bl false)])) p (.dK [(kS "BadProgram", .bl true), (kS "BadNames", .bl false), (kS "BadSaying", .bl false), (kS "NoTable", .bl false), (kS "TooWide", .bl false), (kS "BadTurns", .bl false)])) := (B2.mutN (S2.free hq2)).mutN hp
  generalize upd (upd (upd H2 q2 (.dK [])) q2 (.dK [(kS "TooWide", .bl false), (kS "BadTurns", .bl false)])) p (.dK [(kS "BadProgram", .bl true), (kS "BadNames", .bl false), (kS "BadSaying", .bl false), (kS "NoTable", .bl false), (kS "TooWide", .bl false), (kS "BadTurns", .bl false)]) = H3 at A3 S3
  refine ⟨.ref p, rfl, .inr (.inr (.inl ⟨rfl, .inl ⟨_, A3⟩⟩)), fun q3 hq3 => ?_⟩
  have B3 : Same H (upd H3 q3 (.dK [])) := S3.new hq3
  have n3 : p ≠ q3 := ne_of_none A3 hq3
  have m3 : mergeK [] ([(kS "NoMore", .bl false), (kS "Cut", .bl false)] : List (Key × V)) = [(kS "NoMore", .bl false), (kS "Cut", .bl false)] := rfl
  have r3 : mergeK [(kS "BadProgram", .bl true), (kS "BadNames", .bl false), (kS "BadSaying", .bl false), (kS "NoTable", .bl false), (kS "TooWide", .bl false), (kS "BadTurns", .bl false)] ([(kS "NoMore", .bl false), (kS "Cut", .bl false)] : List (Key × V)) = [(kS "BadProgram", .bl true), (kS "BadNames", .bl false), (kS "BadSaying", .bl false), (kS "NoTable", .bl false), (kS "TooWide", .bl false), (kS "BadTurns", .bl false), (kS "NoMore", .bl false), (kS "Cut", .bl false)] := rfl
  refine ⟨a, dd, fs, rfl, B3 _ _ ha, B3 _ _ hd, a, dd, fs, rfl, B3 _ _ ha, B3 _ _ hd, upd_same, [(kS "NoMore", .bl false), (kS "Cut", .bl false)], rfl, by decide, p, q3, [(kS "BadProgram", .bl true), (kS "BadNames", .bl false), (kS "BadSaying", .bl false), (kS "NoTable", .bl false), (kS "TooWide", .bl false), (kS "BadTurns", .bl false)], [(kS "NoMore", .bl false), (kS "Cut", .bl false)], rfl, rfl, n3, ?_, ?_, by show _ ≤ sizeLine; decide, ?_⟩
  · rw [upd_ne n3, upd_ne n3]; exact A3
  · rw [m3]; exact upd_same
  rw [m3, r3]
  have A4 : upd (upd (upd H3 q3 (.dK [])) q3 (.dK [(kS "NoMore", .bl false), (kS "Cut", .bl false)])) p (.dK [(kS "BadProgram", .bl true), (kS "BadNames", .bl false), (kS "BadSaying", .bl false), (kS "NoTable", .bl false), (kS "TooWide", .bl false), (kS "BadTurns", .bl false), (kS "NoMore", .bl false), (kS "Cut", .bl false)]) p = some (.dK [(kS "BadProgram", .bl true), (kS "BadNames", .bl false), (kS "BadSaying", .bl false), (kS "NoTable", .bl false), (kS "TooWide", .bl false), (kS "BadTurns", .bl false), (kS "NoMore", .bl false), (kS "Cut", .bl false)]) := upd_same
  have S4 : Same H (upd (upd (upd H3 q3 (.dK [])) q3 (.dK [(kS "NoMore", .bl false), (kS "Cut", .bl false)])) p (.dK [(kS "BadProgram", .bl true), (kS "BadNames", .bl false), (kS "BadSaying", .bl false), (kS "NoTable", .bl false), (kS "TooWide", .bl false), (kS "BadTurns", .bl false), (kS "NoMore", .bl false), (kS "Cut", .bl false)])) := (B3.mutN (S3.free hq3)).mutN hp
  generalize upd (upd (upd H3 q3 (.dK [])) q3 (.dK [(kS "NoMore", .bl false), (kS "Cut", .bl false)])) p (.dK [(kS "BadProgram", .bl true), (kS "BadNames", .bl false), (kS "BadSaying", .bl false), (kS "NoTable", .bl false), (kS "TooWide", .bl false), (kS "BadTurns", .bl false), (kS "NoMore", .bl false), (kS "Cut", .bl false)]) = H4 at A4 S4
  refine ⟨.ref p, rfl, .inr (.inr (.inl ⟨rfl, .inl ⟨_, A4⟩⟩)), fun q4 hq4 => ?_⟩
  have B4 : Same H (upd H4 q4 (.dK [])) := S4.new hq4
  have n4 : p ≠ q4 := ne_of_none A4 hq4
  have m4 : mergeK [] ([(kS "NoText", .bl false), (kS "NoRow", .bl false)] : List (Key × V)) = [(kS "NoText", .bl false), (kS "NoRow", .bl false)] := rfl
  have r4 : mergeK [(kS "BadProgram", .bl true), (kS "BadNames", .bl false), (kS "BadSaying", .bl false), (kS "NoTable", .bl false), (kS "TooWide", .bl false), (kS "BadTurns", .bl false), (kS "NoMore", .bl false), (kS "Cut", .bl false)] ([(kS "NoText", .bl false), (kS "NoRow", .bl false)] : List (Key × V)) = [(kS "BadProgram", .bl true), (kS "BadNames", .bl false), (kS "BadSaying", .bl false), (kS "NoTable", .bl false), (kS "TooWide", .bl false), (kS "BadTurns", .bl false), (kS "NoMore", .bl false), (kS "Cut", .bl false), (kS "NoText", .bl false), (kS "NoRow", .bl false)] := rfl
  refine ⟨a, dd, fs, rfl, B4 _ _ ha, B4 _ _ hd, a, dd, fs, rfl, B4 _ _ ha, B4 _ _ hd, upd_same, [(kS "NoText", .bl false), (kS "NoRow", .bl false)], rfl, by decide, p, q4, [(kS "BadProgram", .bl true), (kS "BadNames", .bl false), (kS "BadSaying", .bl false), (kS "NoTable", .bl false), (kS "TooWide", .bl false), (kS "BadTurns", .bl false), (kS "NoMore", .bl false), (kS "Cut", .bl false)], [(kS "NoText", .bl false), (kS "NoRow", .bl false)], rfl, rfl, n4, ?_, ?_, by show _ ≤ sizeLine; decide, ?_⟩
  · rw [upd_ne n4, upd_ne n4]; exact A4
  · rw [m4]; exact upd_same
  rw [m4, r4]
  have A5 : upd (upd (upd H4 q4 (.dK [])) q4 (.dK [(kS "NoText", .bl false), (kS "NoRow", .bl false)])) p (.dK [(kS "BadProgram", .bl true), (kS "BadNames", .bl false), (kS "BadSaying", .bl false), (kS "NoTable", .bl false), (kS "TooWide", .bl false), (kS "BadTurns", .bl false), (kS "NoMore", .bl false), (kS "Cut", .bl false), (kS "NoText", .bl false), (kS "NoRow", .bl false)]) p = some (.dK [(kS "BadProgram", .bl true), (kS "BadNames", .bl false), (kS "BadSaying", .bl false), (kS "NoTable", .bl false), (kS "TooWide", .bl false), (kS "BadTurns", .bl false), (kS "NoMore", .bl false), (kS "Cut", .bl false), (kS "NoText", .bl false), (kS "NoRow", .bl false)]) := upd_same
  have S5 : Same H (upd (upd (upd H4 q4 (.dK [])) q4 (.dK [(kS "NoText", .bl false), (kS "NoRow", .bl false)])) p (.dK [(kS "BadProgram", .bl true), (kS "BadNames", .bl false), (kS "BadSaying", .bl false), (kS "NoTable", .bl false), (kS "TooWide", .bl false), (kS "BadTurns", .bl false), (kS "NoMore", .bl false), (kS "Cut", .bl false), (kS "NoText", .bl false), (kS "NoRow", .bl false)])) := (B4.mutN (S4.free hq4)).mutN hp
  generalize upd (upd (upd H4 q4 (.dK [])) q4 (.dK [(kS "NoText", .bl false), (kS "NoRow", .bl false)])) p (.dK [(kS "BadProgram", .bl true), (kS "BadNames", .bl false), (kS "BadSaying", .bl false), (kS "NoTable", .bl false), (kS "TooWide", .bl false), (kS "BadTurns", .bl false), (kS "NoMore", .bl false), (kS "Cut", .bl false), (kS "NoText", .bl false), (kS "NoRow", .bl false)]) = H5 at A5 S5
  refine ⟨p, _, A5, True.intro, fun od => ?_⟩
  refine ⟨.ref p, rfl, p, od, rfl, .inl ⟨_, upd_same, fun Z hZ => ?_⟩⟩
  have hpZ : p ≠ Z := ne_of_none upd_same hZ
  have S6 : Same H (upd H5 p (.frz od (.dK [(kS "BadProgram", .bl true), (kS "BadNames", .bl false), (kS "BadSaying", .bl false), (kS "NoTable", .bl false), (kS "TooWide", .bl false), (kS "BadTurns", .bl false), (kS "NoMore", .bl false), (kS "Cut", .bl false), (kS "NoText", .bl false), (kS "NoRow", .bl false)]))) := S5.mutN hp
  have hZ0 : H Z = none := S6.free hZ
  refine lc_it (g := gName 3) (tt := fun σ H Q => tDGet (tVar 1) (tVar 3) σ H fun x H' => ∃ k, TruV K x H' k ∧ Q k H') (te := tVar 3) (vs := [3]) walk_keys (fun i H' => H' Z = some (.lst (if 0 < i then [.str "BadProgram"] else [])) ∧ H' p = some (.frz od (.dK [(kS "BadProgram", .bl true), (kS "BadNames", .bl false), (kS "BadSaying", .bl false), (kS "NoTable", .bl false), (kS "TooWide", .bl false), (kS "BadTurns", .bl false), (kS "NoMore", .bl false), (kS "Cut", .bl false), (kS "NoText", .bl false), (kS "NoRow", .bl false)])) ∧ Same H H') ?_ ?_ ?_ ?_
  · exact ⟨upd_same, by rw [upd_ne hpZ]; exact upd_same, S6.new hZ⟩
  · rintro i H' _ ⟨_, h2, _⟩
    exact h2
  · rintro i x H' H2 hi ⟨h1, h2, h3⟩ ⟨rfl, k, v, hk, rfl⟩
    have hi' : i < 10 := hi
    have cs : i = 0 ∨ i = 1 ∨ i = 2 ∨ i = 3 ∨ i = 4 ∨ i = 5 ∨ i = 6 ∨ i = 7 ∨ i = 8 ∨ i = 9 := by omega
    rcases cs with rfl | rfl | rfl | rfl | rfl | rfl | rfl | rfl | rfl | rfl
    · cases hk
      refine ⟨rfl, _, rfl, _, rfl, p, _, rfl, .inl ⟨_, _, .inr ⟨_, h2⟩, rfl, rfl⟩, true, rfl, iteT ⟨_, rfl, _, h1, by decide, ?_⟩⟩
      exact ⟨upd_same, by rw [upd_ne hpZ]; exact h2, h3.mutN hZ0⟩
    · cases hk
      exact ⟨rfl, _, rfl, _, rfl, p, _, rfl, .inl ⟨_, _, .inr ⟨_, h2⟩, rfl, rfl⟩, false, rfl, iteF ⟨h1, h2, h3⟩⟩
    · cases hk
      exact ⟨rfl, _, rfl, _, rfl, p, _, rfl, .inl ⟨_, _, .inr ⟨_, h2⟩, rfl, rfl⟩, false, rfl, iteF ⟨h1, h2, h3⟩⟩
    · cases hk
      exact ⟨rfl, _, rfl, _, rfl, p, _, rfl, .inl ⟨_, _, .inr ⟨_, h2⟩, rfl, rfl⟩, false, rfl, iteF ⟨h1, h2, h3⟩⟩
    · cases hk
      exact ⟨rfl, _, rfl, _, rfl, p, _, rfl, .inl ⟨_, _, .inr ⟨_, h2⟩, rfl, rfl⟩, false, rfl, iteF ⟨h1, h2, h3⟩⟩
    · cases hk
      exact ⟨rfl, _, rfl, _, rfl, p, _, rfl, .inl ⟨_, _, .inr ⟨_, h2⟩, rfl, rfl⟩, false, rfl, iteF ⟨h1, h2, h3⟩⟩
    · cases hk
      exact ⟨rfl, _, rfl, _, rfl, p, _, rfl, .inl ⟨_, _, .inr ⟨_, h2⟩, rfl, rfl⟩, false, rfl, iteF ⟨h1, h2, h3⟩⟩
    · cases hk
      exact ⟨rfl, _, rfl, _, rfl, p, _, rfl, .inl ⟨_, _, .inr ⟨_, h2⟩, rfl, rfl⟩, false, rfl, iteF ⟨h1, h2, h3⟩⟩
    · cases hk
      exact ⟨rfl, _, rfl, _, rfl, p, _, rfl, .inl ⟨_, _, .inr ⟨_, h2⟩, rfl, rfl⟩, false, rfl, iteF ⟨h1, h2, h3⟩⟩
    · cases hk
      exact ⟨rfl, _, rfl, _, rfl, p, _, rfl, .inl ⟨_, _, .inr ⟨_, h2⟩, rfl, rfl⟩, false, rfl, iteF ⟨h1, h2, h3⟩⟩
  · rintro H' ⟨h1, h2, h3⟩
    refine ⟨h2, ?_⟩
    have h1' : upd H' p (.dK [(kS "BadProgram", .bl true), (kS "BadNames", .bl false), (kS "BadSaying", .bl false), (kS "NoTable", .bl false), (kS "TooWide", .bl false), (kS "BadTurns", .bl false), (kS "NoMore", .bl false), (kS "Cut", .bl false), (kS "NoText", .bl false), (kS "NoRow", .bl false)]) Z = some (.lst [.str "BadProgram"]) := by rw [upd_ne (Ne.symm hpZ)]; exact h1
    have h3' : Same H (upd H' p (.dK [(kS "BadProgram", .bl true), (kS "BadNames", .bl false), (kS "BadSaying", .bl false), (kS "NoTable", .bl false), (kS "TooWide", .bl false), (kS "BadTurns", .bl false), (kS "NoMore", .bl false), (kS "Cut", .bl false), (kS "NoText", .bl false), (kS "NoRow", .bl false)])) := h3.mutN hp
    generalize upd H' p (.dK [(kS "BadProgram", .bl true), (kS "BadNames", .bl false), (kS "BadSaying", .bl false), (kS "NoTable", .bl false), (kS "TooWide", .bl false), (kS "BadTurns", .bl false), (kS "NoMore", .bl false), (kS "Cut", .bl false), (kS "NoText", .bl false), (kS "NoRow", .bl false)]) = H7 at h1' h3'
    refine ⟨_, rfl, Z, _, rfl, .inl (SqL.of h1'), ?_⟩
    refine ⟨rfl, false, rfl, iteF ?_⟩
    refine ⟨a, dd, fs, rfl, h3' _ _ ha, h3' _ _ hd, true, rfl, iteF ?_⟩
    refine ⟨a, dd, fs, rfl, h3' _ _ ha, h3' _ _ hd, true, rfl, iteF ?_⟩
    exact ⟨_, rfl, Z, _, 0, _, rfl, rfl, SqL.of h1', rfl, q _ h3'⟩
end
end Sh


set_option Elab.async false
set_option linter.all false
set_option maxRecDepth 100000
set_option maxHeartbeats 1000000
/-! a program made, or refused -/
namespace Sh
open PySem L2 Nf
section
variable {P : Program} {w : World} {K : PySem.W.Frag} {mg : Str → Option Value} {base : Heap}
abbrev aPr (K : PySem.W.Frag) : Addr := He.ga K "Program"
abbrev s_bpi : Stmt := (clsBody (top 2)).getD 0 (.Pass ⟨0, 0, 0, 0⟩)
abbrev N_bpi : List Str := ["self", "place"]
abbrev P_bpi : List Str := ["self", "place"]
theorem sc_bpi : FnScope N_bpi P_bpi (defScope s_bpi) := ⟨rfl, rfl, rfl, by decide +kernel, rfl, by decide +kernel, by decide +kernel⟩
def spBI (K : PySem.W.Frag) : Sp := fun vs H Q _ => ∃ (a : Addr) (y : V), vs = [.ref a, y] ∧ H a = some (exo a (aBP K) none) ∧ ∀ dx, H dx = none → dx ≠ a → Q .non (upd (upd H dx (exd dx [("place", y)])) a (exo a (aBP K) (some dx)))
abbrev FnM (K : PySem.W.Frag) (q : Str) (st : Stmt) (f : Addr) (fd : FuncData) : Prop := FunD K "__init__" q (defArgs st) (defBody st) (defScope st) [] [] f fd
theorem ok_bpi {f : Addr} {fd : FuncData} (E : Ers K mg) (F : FnM K "BadProgram.__init__" s_bpi f fd) : FnOk P w K mg base CX0 1 f fd P_bpi (spBI K) := by
  refine F.ok sc_bpi (fun vs H Q E h => ?_) (fun cdv A outer s H vs Q E' hr h => ?_)
  · obtain ⟨a, y, rfl, _⟩ := h
    rfl
  obtain ⟨a, y, rfl, ha, q⟩ := h
  refine ⟨_, PSs.nox (pss_one (ps_ost (pv 0) (pv 1))), ?_⟩
  exact ⟨_, rfl, _, rfl, a, _, rfl, E.kO, E.no, .inl ⟨ha, q⟩⟩
abbrev s_pri : Stmt := (clsBody (top 77)).getD 0 (.Pass ⟨0, 0, 0, 0⟩)
abbrev N_pri : List Str := ["self", "kinds", "functions", "place"]
abbrev P_pri : List Str := ["self", "kinds", "functions"]
theorem sc_pri : FnScope N_pri P_pri (defScope s_pri) := ⟨rfl, rfl, rfl, by decide +kernel, rfl, by decide +kernel, by decide +kernel⟩
/-- nothing of the heap as it was changed but the world's -/
structure PrK (K : PySem.W.Frag) (mg : Str → Option Value) (fP : Addr) : Prop where
  g : mg "Program" = some (.ref (aPr K))
  mkr : L2.Mk K (aPr K) fP
  cl : Cls K (aPr K)
  n1 : NoAttr K (aPr K) "kinds"
  n2 : NoAttr K (aPr K) "functions"
def spPI (K : PySem.W.Frag) (c : Cn) (W : Wd) (f : List D → M D) : Sp := fun vs H Q E => ∃ (R Hb : Hp) (x dx : Addr) (v1 v2 : V) (d1 d2 r : D) (n n' : Nat), vs = [.ref x, v1, v2] ∧ H = upd (upd Hb dx (.own x)) x (.ins (aPr K) dx []) ∧ Hb x = none ∧ Hb dx = none ∧ dx ≠ x ∧
  FzA c R [v1, v2] [d1, d2] ∧ HpOk ⟨c, W, [], Hb, R⟩ R Hb n ∧ f [d1, d2] n = some (r, n') ∧
  (r = .non → ∀ R' H', HpOk ⟨c, W, [], Hb, R⟩ R' H' n' → H' x = some (.ins (aPr K) dx (putF "functions" v2 (putF "kinds" v1 []))) → R' x = none → Q .non H') ∧
  (r ≠ .non → ∀ R' H' d v, HpOk ⟨c, W, [], Hb, R⟩ R' H' n' → H' d = some (.xd [("place", v)]) → Fz c R' v r → E (.ref (aBP K)) (some d) H')
theorem spPI_len {c : Cn} {W : Wd} {f : List D → M D} : ∀ vs H Q E, spPI K c W f vs H Q E → vs.length = P_pri.length := fun vs H Q E ⟨R, Hb, x, dx, v1, v2, d1, d2, r, n, n', e, _⟩ => by subst e; rfl
set_option maxHeartbeats 0 in
theorem ok_pri {f fb fw : Addr} {fd fbd fwd : FuncData} {k : Nat} {dk : Addr} {W : Wd} {c_fwp : List D → M D} {sw : Stmt} {pw : List Str} (T : Bt mg) (E : Ers K mg) (Pk : PrK K mg f) (F : FnM K "Program.__init__" s_pri f fd) (Fb : FnM K "BadProgram.__init__" s_bpi fb fbd)
    (iB : PySem.W.findIn K (.ref (aBP K)) "__init__" = some (some (.ref fb))) (tB : PySem.W.typeIn K (.ref fb) = some (.type "function")) (bB : Binds K fbd P_bpi [])
    (C_w : Cal K mg "first_wrong_place" sw pw fw fwd) (G_w : FnOk P w K mg base CX0 (k + 1) fw fwd pw (spM ⟨K, dk⟩ W c_fwp)) :
    FnOk P w K mg base (L2.CX P w) (k + 3) f fd P_pri (spPI K ⟨K, dk⟩ W c_fwp) := by
  refine F.ok sc_pri spPI_len (fun cdv A outer s H vs Q E' hr h => ?_)
  obtain ⟨R, Hb, x, dx, v1, v2, d1, d2, r, n, n', rfl, rfl, hx, hdx, ne, fz, hp, ew, q1, q2⟩ := h
  have G_b := ok_bpi (P := P) (w := w) (base := base) E Fb
  refine ⟨_, pss_cons ((ps_set (i := 3) sc_pri.nd rfl (Or.inl rfl) (pe_call G_w (hr.mono (by omega)) (by rfl) C_w.m C_w.F.kp C_w.b .nil pass0 (pa_cons (pv 1) (pa_cons (pv 2) pa_nil)))))
    (pss_cons (ps_if (pt_cmpR op_notN (pv 3) pe_non (nomark _)) (pss_one (ps_raise rfl (takes_of rfl rfl rfl rfl) (pmk_oex E.kO iB tB G_b (hr.mono (by omega)) bB .nil pass0 (by rfl) (E.g _ (by decide)) (pa_cons (pv 3) pa_nil)))) pss_nil)
    (PSs.nox (pss_cons (ps_fld (pv 0) (pv 1) rfl) (pss_one (ps_fld (pv 0) (pv 2) rfl))))), ?_⟩
  have hx1 : upd Hb dx (.own x) x = none := by rw [upd_ne (Ne.symm ne)]; exact hx
  have hpB : HpOk ⟨⟨K, dk⟩, W, [], Hb, R⟩ R (upd (upd Hb dx (.own x)) x (.ins (aPr K) dx [])) n := (hp.lay0 hdx).lay0 hx1
  have hxd : x ∉ W.dom := fun m => hp.d0 x m hx
  have hRx : R x = none := hp.same.free hx
  refine ⟨_, rfl, _, rfl, R, [d1, d2], r, n, n', fz, hpB.enter, ew, fun v R' H' hp' z => ?_⟩
  have hpA : HpOk ⟨⟨K, dk⟩, W, [], Hb, R⟩ R' H' n' := hpB.then hp'
  have hx' : H' x = some (.ins (aPr K) dx []) := hp'.keep x _ upd_same hxd
  have hRx' : R' x = none := by
    cases e : R' x with
    | none => rfl
    | some o =>
      rcases hp'.new x (by rw [e]; exact fun z => nomatch z) with y | y
      · exact absurd hRx y
      · exact absurd (y.symm.trans upd_same) (fun z => nomatch z)
  clear hp' hpB
  by_cases h0 : r = .non
  · subst h0
    cases z
    refine ⟨_, rfl, rfl, false, rfl, iteF ?_⟩
    refine ⟨_, rfl, _, rfl, x, aPr K, dx, [], rfl, hx', Pk.cl, Pk.n1, by decide, ?_⟩
    refine ⟨_, rfl, _, rfl, x, aPr K, dx, _, rfl, upd_same, Pk.cl, Pk.n2, by show (1 : Nat) < 1000; decide, ?_⟩
    exact q1 rfl R' _ ((hpA.mut hRx' hx).mut hRx' hx) upd_same hRx'
  · have hv : v ≠ .non := fun z0 => by
      subst z0
      cases z
      exact h0 rfl
    refine ⟨_, rfl, rfl, true, by rw [decide_eq_false hv]; rfl, iteT ?_⟩
    refine ⟨_, rfl, by show (1 : Nat) ≤ 1000; decide, fun a ha => ⟨a, v, rfl, upd_same, fun d hd nd => ?_⟩⟩
    have hd1 : H' d = none := by rw [upd_ne nd] at hd; exact hd
    refine ⟨rfl, d, [("place", v)], upd_same, by rw [upd_ne nd]; exact upd_same, hd1, ?_⟩
    have e : upd (del (upd (upd (upd H' a (exo a (aBP K) none)) d (exd d [("place", v)])) a (exo a (aBP K) (some d))) a) d (.xd [("place", v)]) = upd H' d (.xd [("place", v)]) := by
      funext b
      by_cases hb : b = d
      · subst hb; rw [upd_same, upd_same]
      · rw [upd_ne hb, upd_ne hb]
        by_cases hb2 : b = a
        · subst hb2; rw [del_same]; exact ha.symm
        · rw [del_ne hb2, upd_ne hb2, upd_ne hb, upd_ne hb2]
    rw [e]
    exact q2 h0 R' _ d v (hpA.lay0 hd1) upd_same z
end
end Sh


set_option Elab.async false
set_option linter.all false
set_option maxRecDepth 100000
set_option maxHeartbeats 1000000
/-! what comes of a program's two tuples -/
namespace Sh
open PySem L2 Nf
theorem HpOk.grow0 {Γ : Gm} {R H H2 : Hp} {n : Nat} (h : HpOk Γ R H n) (S : Same H H2) : HpOk Γ R H2 n := by
  refine ⟨h.same.trans S, h.dj, h.d0, Γ.W.only n H H2 h.wd fun a m => ?_, fun a o e m => S a o (h.keep a o e m), h.r0, h.new⟩
  cases e : H a with
  | none => exact absurd e (Γ.W.there n H h.wd a m)
  | some o => exact S a o e
def mdD : D → D
  | .non => .tup [.str "made"]
  | r => .tup [.str "BadProgram", r]
def F_made (f : List D → M D) : List D → M D
  | [a, b] => fun n => (f [a, b] n).map fun p => (mdD p.1, p.2)
  | _ => fun _ => none
theorem mdD_ne {r : D} (h : r ≠ .non) : mdD r = .tup [.str "BadProgram", r] := by
  cases r with
  | non => exact absurd rfl h
  | _ => rfl
section
variable {P : Program} {w : World} {K : PySem.W.Frag} {mg : Str → Option Value} {base : Heap}
abbrev s_made : Stmt := top 104
abbrev N_made : List Str := ["_law_kinds", "_law_functions", "_law_error", "e"]
abbrev P_made : List Str := ["_law_kinds", "_law_functions"]
theorem sc_made : FnScope N_made P_made (defScope s_made) := ⟨rfl, rfl, rfl, by decide +kernel, rfl, by decide +kernel, by decide +kernel⟩
set_option maxHeartbeats 0 in
theorem ok_made {f fP fr : Addr} {fd fPd frd : FuncData} {k : Nat} {dk : Addr} {W : Wd} {c_fwp : List D → M D} (T : Bt mg) (E : Ers K mg) (Pk : PrK K mg fP) (C_made : Cal K mg "_law_made" s_made P_made f fd) (C_refused : Cal K mg "_law_refused" s_refused P_refused fr frd)
    (bP : Binds K fPd P_pri []) (G_P : FnOk P w K mg base (L2.CX P w) (k + 1) fP fPd P_pri (spPI K ⟨K, dk⟩ W c_fwp)) :
    FnOk P w K mg base CX0 (k + 3) f fd P_made (spM ⟨K, dk⟩ W (F_made c_fwp)) := by
  refine C_made.F.ok sc_made (fun vs H Q E h => ?_) (fun cdv A outer s H vs Q E' hr h => ?_)
  · obtain ⟨R, ds, r, n, n', f, _, e, _⟩ := h
    rw [f.len]
    match ds, e with
    | [_, _], _ => rfl
  obtain ⟨R, ds, r, n, n', fz, hp, ew, q⟩ := h
  have G_r := ok_refused (P := P) (w := w) (base := base) T E C_refused
  have hpass : ∀ {X : Cx} {W : WX}, X.N.length = 4 → X.prog = P → X.w = w → Takes X W → Passes (L2.CX P w) X (fun cls d H => ∀ σ : L2.St, σ.length = 4 → W cls d σ H) := fun {X W} hl h1 h2 tk pins σ H s e s' I c => by
    subst h1 h2
    exact tk e s' (XE.of_call I (fun cls d H' h => h σ (by rw [I.len, hl])) c)
  refine ⟨_, pss_cons (ps_set (i := 2) sc_made.nd rfl (Or.inl rfl) pe_non)
    (pss_cons (ps_try_keep (i := 3) (Wout := fun _ _ _ _ => False) rfl rfl sc_made.nd rfl rfl rfl ⟨rfl, by decide, .inl (E.g "FillError" (by decide))⟩ takes0
      (fun W pn xe tk => pss_one (ps_expr (pe_make Pk.mkr G_P (hr.mono (by omega)) (by rfl) Pk.g bP .nil (hpass rfl rfl rfl tk) (pa_cons (pv 0) (pa_cons (pv 1) pa_nil)))))
      (fun a oe cls d pn z => pss_one (ps_set (i := 2) sc_made.nd rfl (Or.inl rfl) (pv 3))))
    (pss_cons (ps_if (pt_cmpR op_isN (pv 2) pe_non (nomark _)) (pss_one (ps_ret (pe_tup (pa_cons pe_str pa_nil)))) pss_nil)
    (pss_cons (ps_if (pt_not (pt_truth (pe_isB (C := "BadProgram") (i := 2) T E (by decide) (pv 2) rfl rfl (by decide)) (by intro _; rfl))) (pss_one (ps_ret (pe_tup (pa_cons pe_str pa_nil)))) pss_nil)
    (pss_one (ps_ret (pe_tup (pa_cons (pe_call G_r (hr.mono (by omega)) (by rfl) C_refused.m C_refused.F.kp C_refused.b .nil pass0 (pa_cons (pv 2) pa_nil)) (pa_cons (pe_xfO (pv 2)) pa_nil)))))))), ?_⟩
  match ds, fz, ew with
  | [d1, d2], .cons (v := v1) z1 (.cons (v := v2) z2 .nil), ew =>
  obtain ⟨⟨r0, m0⟩, e0, e1⟩ := Option.map_eq_some_iff.mp (show (c_fwp [d1, d2] n).map (fun p => (mdD p.1, p.2)) = some (r, n') from ew)
  cases e1
  refine ⟨_, rfl, _, rfl, fun x dx hx hdx ne => ⟨R, H, x, dx, v1, v2, d1, d2, r0, n, m0, rfl, rfl, hx, hdx, ne, .cons z1 (.cons z2 .nil), hp, e0, fun h0 R' H' hp' _ _ => ⟨rfl, ?_⟩, fun h0 R' H' d v hp' hd z σ hσ => ?_⟩⟩
  · subst h0
    refine ⟨_, rfl, rfl, true, rfl, iteT ?_⟩
    refine ⟨by show (1 : Nat) ≤ sizeLine; decide, fun T hT => ?_⟩
    exact q _ _ _ (hp'.lay hT) (.tup (SqT.of upd_same) (by show (1 : Nat) ≤ sizeLine; decide) (.cons (.str _ (by decide +kernel)) .nil))
  · obtain ⟨s0, s1, s2, s3, rfl⟩ : ∃ s0 s1 s2 s3, σ = [s0, s1, s2, s3] := by
      match σ, hσ with
      | [a, b, c, d], _ => exact ⟨a, b, c, d, rfl⟩
    refine ⟨true, E.exm, (fun z => Bool.noConfusion z), fun _ a ha => ?_⟩
    have hda : d ≠ a := ne_of_none hd ha
    refine ⟨_, rfl, ?_⟩
    have hXa : upd H' a (XO (.ref (aBP K)) (some d) a) a = some (XO (.ref (aBP K)) (some d) a) := upd_same
    have hXd : upd H' a (XO (.ref (aBP K)) (some d) a) d = some (.xd [("place", v)]) := by rw [upd_ne hda]; exact hd
    have hpX := hp'.lay0 (o := XO (.ref (aBP K)) (some d) a) ha
    refine ⟨_, rfl, rfl, false, rfl, iteF ?_⟩
    refine ⟨a, d, _, rfl, hXa, hXd, true, rfl, iteF ?_⟩
    refine ⟨_, rfl, a, d, _, rfl, hXa, hXd, fun H2 S2 => ?_⟩
    refine ⟨_, rfl, a, aBP K, d, _, v, rfl, S2 _ _ hXa, S2 _ _ hXd, E.kX, E.no, rfl, ?_⟩
    refine ⟨by show (2 : Nat) ≤ sizeLine; decide, fun T hT => ?_⟩
    rw [mdD_ne h0] at q
    have hp2 := hpX.grow0 S2
    exact q _ _ _ (hp2.lay hT) (.tup (SqT.of upd_same) (by show (2 : Nat) ≤ sizeLine; decide) (.cons (.str _ (by decide +kernel)) (.cons (z.mono (same_new (hp2.same.free hT) _).le) .nil)))
end
end Sh


set_option Elab.async false
set_option linter.all false
set_option maxRecDepth 100000
namespace Sh
open PySem L2 Nf
/-! the same, kinds and all -/
def D.sd : Nat → D → Prop
  | 0, _ => False
  | n + 1, .tup ds => ds.length ≤ 1000 ∧ ∀ d ∈ ds, D.sd n d
  | _ + 1, .str _ => True
  | _ + 1, .int _ => True
  | _ + 1, _ => False
def F_same : Nat → List D → M D
  | 0 => fun _ _ => none
  | k + 1 => fnA 2 4 (b_same (F_same k))
theorem lc_same {k n : Nat} (ih : ∀ d, D.sd k d → F_same k [d, d] n = some (.bl true, n)) {a b : D} : ∀ (ds : List D), (∀ d ∈ ds, D.sd k d) →
    lcM (gT (gsC (gN 2) (gsC (gN 3) gsN))) tY (eCall (F_same k) (aCons (eVar 2) (aCons (eVar 3) aNil))) [some a, some b, none, none] (prs ds ds) n = some (ds.map fun _ => .bl true, n)
  | [], _ => rfl
  | d :: r, h => by
    have e : prs (d :: r) (d :: r) = .tup [d, d] :: prs r r := rfl
    rw [e]
    exact lcM_cons rfl (eCall_e (aCons_e (eVar_e rfl) (aCons_e (eVar_e rfl) aNil_e)) (ih d (h d (by simp)))) (lc_same ih r fun x hx => h x (by simp [hx]))
theorem bls_true : ∀ ds : List D, bls (ds.map fun _ => D.bl true) = some (ds.map fun _ => true)
  | [] => rfl
  | d :: r => by
    show (bls (r.map fun _ => D.bl true)).map (true :: ·) = _
    rw [bls_true r]; rfl
theorem all_true : ∀ ds : List D, (ds.map fun _ => true).all _root_.id = true
  | [] => rfl
  | d :: r => by rw [List.map_cons, List.all_cons, all_true r]; rfl
theorem same_refl : ∀ (k : Nat) (d : D) (n : Nat), D.sd k d → F_same k [d, d] n = some (.bl true, n)
  | 0, _, _, h => h.elim
  | k + 1, .tup ds, n, h => by
    refine fn_ret rfl ?_
    show b_same (F_same k) [some (.tup ds), some (.tup ds), none, none] n = _
    unfold b_same
    have t1 : ∀ i, ([some (D.tup ds), some (D.tup ds), none, none] : Sd)[i]? = some (some (.tup ds)) → trB (e1 (fIsi "tuple") (eVar i)) [some (.tup ds), some (.tup ds), none, none] n = some (true, n) := fun i hi => trB_e (e1_e (eVar_e hi) (y := .bl true) (by show (kitB "tuple" "tuple").map _ = _; rw [show kitB "tuple" "tuple" = some true by decide +kernel]; rfl)) rfl
    have l1 : ∀ i, ([some (D.tup ds), some (D.tup ds), none, none] : Sd)[i]? = some (some (.tup ds)) → eF (f1 fLen) (aCons (eVar i) aNil) [some (.tup ds), some (.tup ds), none, none] n = some (.int (ds.length : Nat), n) := fun i hi => eF_e (aCons_e (eVar_e hi) aNil_e) rfl
    have t2 : trB (e2 fNe (eF (f1 fLen) (aCons (eVar 0) aNil)) (eF (f1 fLen) (aCons (eVar 1) aNil))) [some (.tup ds), some (.tup ds), none, none] n = some (false, n) := trB_e (e2_e (l1 0 rfl) (l1 1 rfl) (z := .bl false) (by show some (D.bl (!decide _)) = _; simp)) rfl
    refine bSeq_r ((sIf_t (t1 1 rfl)).trans ((bSeq_n ((sIf_f ((tOr_f (tNt_e (t1 0 rfl))).trans t2)).trans rfl)).trans (sRet_r ?_)))
    refine eF_e (aCons_e (eLc_e (i2_e (eVar_e rfl) (eVar_e rfl) (zip_tup (by have := h.1; omega))) (lc_same (fun d hd => same_refl k d n hd) ds h.2)) aNil_e) ?_
    show (bls _).map _ = _
    rw [bls_true, Option.map_some, all_true]
  | k + 1, .str x, n, _ => by
    refine fn_ret rfl ?_
    show b_same (F_same k) [some (.str x), some (.str x), none, none] n = _
    unfold b_same
    have tf : ∀ T i, ([some (D.str x), some (D.str x), none, none] : Sd)[i]? = some (some (.str x)) → kitB "str" T = some false → trB (e1 (fIsi T) (eVar i)) [some (.str x), some (.str x), none, none] n = some (false, n) := fun T i hi hT => trB_e (e1_e (eVar_e hi) (y := .bl false) (by show (kitB "str" T).map _ = _; rw [hT]; rfl)) rfl
    have t3 : ∀ i, ([some (D.str x), some (D.str x), none, none] : Sd)[i]? = some (some (.str x)) → e1 (fIsi "str") (eVar i) [some (.str x), some (.str x), none, none] n = some (.bl true, n) := fun i hi => e1_e (eVar_e hi) (by show (kitB "str" "str").map _ = _; rw [show kitB "str" "str" = some true by decide +kernel]; rfl)
    refine (bSeq_n ((sIf_f (tf "tuple" 1 rfl (by decide +kernel))).trans rfl)).trans ((bSeq_n ((sIf_f (trB_e (e2_e (eVar_e rfl) rfl (z := .bl false) rfl) rfl)).trans rfl)).trans ((bSeq_n ((sIf_f ((tOr_f (tf "bool" 1 rfl (by decide +kernel))).trans (tf "bool" 0 rfl (by decide +kernel)))).trans rfl)).trans (bSeq_r ((sIf_t (tOr_t (trB_e (t3 1 rfl) rfl))).trans (sRet_r (d := .bl true) (m := n) ?_)))))
    exact (vAn_t (t3 1 rfl) rfl).trans ((vAn_t (t3 0 rfl) rfl).trans (e2_e (eVar_e rfl) (eVar_e rfl) (z := .bl true) (by rw [eq_str]; simp)))
  | k + 1, .int x, n, _ => by
    refine fn_ret rfl ?_
    show b_same (F_same k) [some (.int x), some (.int x), none, none] n = _
    unfold b_same
    have tf : ∀ T i, ([some (D.int x), some (D.int x), none, none] : Sd)[i]? = some (some (.int x)) → kitB "int" T = some false → trB (e1 (fIsi T) (eVar i)) [some (.int x), some (.int x), none, none] n = some (false, n) := fun T i hi hT => trB_e (e1_e (eVar_e hi) (y := .bl false) (by show (kitB "int" T).map _ = _; rw [hT]; rfl)) rfl
    have t2 : e1 (fIsi "int") (eVar 0) [some (.int x), some (.int x), none, none] n = some (.bl true, n) := e1_e (eVar_e rfl) (by show (kitB "int" "int").map _ = _; rw [show kitB "int" "int" = some true by decide +kernel]; rfl)
    refine (bSeq_n ((sIf_f (tf "tuple" 1 rfl (by decide +kernel))).trans rfl)).trans ((bSeq_n ((sIf_f (trB_e (e2_e (eVar_e rfl) rfl (z := .bl false) rfl) rfl)).trans rfl)).trans ((bSeq_n ((sIf_f ((tOr_f (tf "bool" 1 rfl (by decide +kernel))).trans (tf "bool" 0 rfl (by decide +kernel)))).trans rfl)).trans ((bSeq_n ((sIf_f ((tOr_f (tf "str" 1 rfl (by decide +kernel))).trans (tf "str" 0 rfl (by decide +kernel)))).trans rfl)).trans (sRet_r ?_))))
    exact (vAn_t t2 rfl).trans (e2_e (eVar_e rfl) (eVar_e rfl) (z := .bl true) (by rw [eq_int]; simp))
  | k + 1, .non, _, h => h.elim
  | k + 1, .bl _, _, h => h.elim
  | k + 1, .lst _, _, h => h.elim
  | k + 1, .dk _ _, _, h => h.elim
  | k + 1, .ins _ _ _, _, h => h.elim
  | k + 1, .deck, _, h => h.elim
theorem sd_flat {ds : List D} (h : ds.length ≤ 1000) (hd : ∀ d ∈ ds, (∃ x, d = .str x) ∨ ∃ i, d = .int i) : D.sd 2 (.tup ds) := ⟨h, fun d m => by
  rcases hd d m with ⟨x, rfl⟩ | ⟨i, rfl⟩ <;> exact True.intro⟩
theorem wk_sd {ks : List Kd} (h : wkD ks ≠ .non) : D.sd 2 (wkD ks) := by
  cases c1 : rk 0 [] ks with
  | some i =>
    have e : wkD ks = .tup [.str "kind", .int (i : Nat)] := by unfold wkD; rw [c1]
    rw [e]; exact sd_flat (by simp) (by simp)
  | none =>
    cases c2 : wmO (thr ks) 0 ["yes", "no"] ks with
    | some p =>
      obtain ⟨i, j⟩ := p
      have e : wkD ks = .tup [.str "maker", .int (i : Nat), .int (j : Nat)] := by unfold wkD; rw [c1, c2]
      rw [e]; exact sd_flat (by simp) (by simp)
    | none =>
      have e : wkD ks = plc "empty" (ek (thN ks ks.length ["truth"]) 0 ks) := by unfold wkD; rw [c1, c2]
      rw [e] at h ⊢
      cases c : ek (thN ks ks.length ["truth"]) 0 ks with
      | none => rw [c] at h; exact absurd rfl h
      | some j => exact sd_flat (by simp) (by simp)
/-! a turn, the law -/
abbrev F_md : List D → M D := F_made (F_fwp F_ff F_ws)
section
variable {f : Nat → Int} (hf : ∀ n, 0 ≤ f n ∧ f n < MM)
include hf
theorem turn_ok {x0 x2 x3 x4 x5 x6 : Option D} {n : Nat} (hn : n + 70 ≤ 2 ^ 40) : ∃ y3 y4 y5 y6 m, l1_law (F_dk f) (nxS f) F_fn G_fi (F_same 3) F_md [x0, some .deck, x2, x3, x4, x5, x6] n = some (.next [x0, some .deck, x2, y3, y4, y5, y6], m) ∧ m ≤ n + 70 := by
  obtain ⟨ks, m, ek, hm, hks⟩ := dk_f hf (n := n) (by omega)
  have fin : ∀ d : D, (d = .tup [] ∨ ∃ q ∈ ks, ∃ mk ∈ q.ms, mk.ps = [] ∧ d = .tup [fun1 q.k mk.w]) → ∃ y5 y6, (bSeq (sSet 5 (eCall G_fi (aCons (eVar 3) (aCons (eVar 4) aNil))))
      (bSeq (sSet 6 (eTup (aCons (eC (.str ("made" : Str))) aNil)))
      (bSeq (sIf (trB (e2 fIsNot (eVar 5) (eC .non))) (sSet 6 (eTup (aCons (eC (.str ("BadProgram" : Str))) (aCons (eVar 5) aNil)))) bNil)
      (sIf (tNt (trB (eCall (F_same 3) (aCons (eCall F_md (aCons (eVar 3) (aCons (eVar 4) aNil))) (aCons (eVar 6) aNil))))) (sRet (eC (.bl false))) bNil)))) [x0, some .deck, x2, some (.tup (ks.map Kd.d)), some d, x5, x6] (m + 1) = some (.next [x0, some .deck, x2, some (.tup (ks.map Kd.d)), some d, y5, y6], m + 1) := fun d hd => by
    have e1 : G_fi [.tup (ks.map Kd.d), d] (m + 1) = some (wkD ks, m + 1) := gfi_f hks hd
    have e2' : F_md [.tup (ks.map Kd.d), d] (m + 1) = some (mdD (wkD ks), m + 1) := by
      show (F_fwp F_ff F_ws [.tup (ks.map Kd.d), d] (m + 1)).map _ = _
      rw [fwp_law hks hd]; rfl
    by_cases hw : wkD ks = .non
    · rw [hw] at e1 e2'
      refine ⟨_, _, (bSeq_n (sSet_n (eCall_e (aCons_e (eVar_e rfl) (aCons_e (eVar_e rfl) aNil_e)) e1))).trans ((bSeq_n (sSet_n (eTup_e (aCons_e rfl aNil_e)))).trans ((bSeq_n ((sIf_f (trB_e (x := .bl false) (e2_e (eVar_e rfl) rfl rfl) rfl)).trans rfl)).trans ((sIf_f (tNt_e (b := true) (trB_e (eCall_e (aCons_e (eCall_e (aCons_e (eVar_e rfl) (aCons_e (eVar_e rfl) aNil_e)) e2') (aCons_e (eVar_e rfl) aNil_e)) (same_refl 3 (.tup [.str "made"]) (m + 1) ⟨by simp, fun d hd => by rw [List.mem_singleton.mp hd]; exact True.intro⟩)) rfl))).trans rfl)))⟩
    · have isn : fIsNot (wkD ks) .non = some (.bl true) := by
        cases c : wkD ks with
        | non => exact absurd c hw
        | _ => rfl
      rw [mdD_ne hw] at e2'
      refine ⟨_, _, (bSeq_n (sSet_n (eCall_e (aCons_e (eVar_e rfl) (aCons_e (eVar_e rfl) aNil_e)) e1))).trans ((bSeq_n (sSet_n (eTup_e (aCons_e rfl aNil_e)))).trans ((bSeq_n ((sIf_t (trB_e (x := .bl true) (e2_e (eVar_e rfl) rfl isn) rfl)).trans (sSet_n (eTup_e (aCons_e rfl (aCons_e (eVar_e rfl) aNil_e)))))).trans ((sIf_f (tNt_e (b := true) (trB_e (eCall_e (aCons_e (eCall_e (aCons_e (eVar_e rfl) (aCons_e (eVar_e rfl) aNil_e)) e2') (aCons_e (eVar_e rfl) aNil_e)) (same_refl 3 (.tup [.str "BadProgram", wkD ks]) (m + 1) ⟨by simp, fun d hd => ?_⟩)) rfl))).trans rfl)))⟩
      have : d = .str "BadProgram" ∨ d = wkD ks := by simpa using hd
      rcases this with rfl | rfl
      · exact True.intro
      · exact wk_sd hw
  have nx : e2 fMod (eCall (nxS f) (aCons (eVar 1) aNil)) (eC (.int 2)) [x0, some .deck, x2, some (.tup (ks.map Kd.d)), some (.tup []), x5, x6] m = some (.int (f m % 2), m + 1) := e2_e (eCall_e (aCons_e (eVar_e rfl) aNil_e) (nx_e (by omega))) rfl (mod_i (by decide))
  unfold l1_law
  by_cases c : f m % 2 = 0
  · obtain ⟨d, ed, hd⟩ := fn_f (n := m + 1) hks
    obtain ⟨y5, y6, e⟩ := fin d hd
    exact ⟨_, _, y5, y6, m + 1, (bSeq_n (sSet_n (eCall_e (aCons_e (eVar_e rfl) aNil_e) ek))).trans ((bSeq_n (sSet_n (eTup_e aNil_e))).trans ((bSeq_n ((sIf_t (tEqI_t nx rfl c)).trans (sSet_n (eCall_e (aCons_e (eVar_e rfl) aNil_e) ed)))).trans e)), by omega⟩
  · obtain ⟨y5, y6, e⟩ := fin (.tup []) (.inl rfl)
    exact ⟨_, _, y5, y6, m + 1, (bSeq_n (sSet_n (eCall_e (aCons_e (eVar_e rfl) aNil_e) ek))).trans ((bSeq_n (sSet_n (eTup_e aNil_e))).trans ((bSeq_n ((sIf_f (tEqI_f nx rfl c)).trans rfl)).trans e)), by omega⟩
theorem law_f {x0 : Option D} : ∃ m, b_law (F_same 3) F_md G_fi (nxS f) F_fn (F_dk f) [x0, some .deck, none, none, none, none, none] 0 = some (.ret (.bl true), m) := by
  obtain ⟨ρ', m', h1, y2, y3, y4, y5, y6, rfl, h2⟩ := fM_inv (g := gN 2) (b := l1_law (F_dk f) (nxS f) F_fn G_fi (F_same 3) F_md) (fun i ρ n => ∃ y2 y3 y4 y5 y6 : Option D, ρ = [x0, some .deck, y2, y3, y4, y5, y6] ∧ n ≤ 70 * i) (rngD 0 12) 0
    [x0, some .deck, none, none, none, none, none] 0 ⟨_, _, _, _, _, rfl, by omega⟩ (by
      rintro j d ρ n hj ⟨y2, y3, y4, y5, y6, rfl, hn⟩
      obtain ⟨rfl, hjr⟩ := rngD_get hj
      obtain ⟨z3, z4, z5, z6, n', e, hn'⟩ := turn_ok hf (x0 := x0) (x2 := some (.int (0 + j))) (x3 := y3) (x4 := y4) (x5 := y5) (x6 := y6) (n := n) (by omega)
      exact ⟨_, _, n', rfl, e, _, _, _, _, _, rfl, by omega⟩)
  refine ⟨m', ?_⟩
  unfold b_law
  exact (bSeq_n ((sFor_i (i1_e rfl (r1_e (by decide)))).trans h1)).trans (sRet_r rfl)
end
end Sh


set_option Elab.async false
set_option linter.all false
set_option maxRecDepth 100000
set_option maxHeartbeats 0
namespace Sh
open PySem L2 Nf
theorem _root_.L2.PSs.all {X : Cx} {st : List Stmt} {ι : Type} {t : ι → TS} (h : ∀ i, PSs X st (t i)) : PSs X st (fun E σ H => ∃ i, t i E σ H) := ⟨fun pins s σ H Q I ⟨i, q⟩ => (h i).run pins s σ H Q I q⟩
structure LawI where
  d : Addr
  g : Addr
  c : Addr
  ds : List Int
  cs : List Int
  H0 : Hp
  R0 : Hp
def spLaw (K : PySem.W.Frag) : Sp := fun vs H Q _ => ∃ (a : Addr) (ns : List Int), vs = [.ref a] ∧ SqL K H a (ns.map V.int) ∧ ns.length ≤ 63 ∧ ∀ H', Q (.bl true) H'
section
variable {P : Program} {w : World} {K : PySem.W.Frag} {mg : Str → Option Value} {base : Heap}
theorem never {k : Nat} {f : Addr} {fd : FuncData} {ps : List Str} {c : Cn} {W : Wd} : FnOk P w K mg base CX0 k f fd ps (spM c W F_no) := fn_never fun vs H Q E ⟨R, ds, r, n, n', f, hp, e, q⟩ => nomatch e
variable {a_is_text_of a_is_word a_is_new_name a_is_node a_parts_of a_nodes_of a_names_of a_is_row a_is_sized a_is_written a_is_kind_name a_are_kind_names a_is_maker_form a_is_kind_form a_is_rule_form a_is_function_form a_is_program_form a_signs_of a_sign_of a_uses_sign a_kind_told a_is_right a_parts_due a_below a_wrong_path a_left_side a_are_among a_kinds_there a_repeated_kind a_wrong_maker a_kinds_with_things a_empty_kind a_wrong_function a_has_overused_name a_wrong_side a_wrong_rule a_first_wrong_place a_same a_l_is_word a_is_new a_is a_size a_has_new a_is_there a_l_is_row a_is_kind a_are_kinds a_kind_formed a_function_formed a_formed a_maker a_head a_told_by a_wrong a_wrong_left a_counted a_l_wrong_rule a_wrong_kinds a_first a_drawn_kinds a_function a_next a_made a_deck a_law a_refused a_pri a_bpi : Addr} {d_is_text_of d_is_word d_is_new_name d_is_node d_parts_of d_nodes_of d_names_of d_is_row d_is_sized d_is_written d_is_kind_name d_are_kind_names d_is_maker_form d_is_kind_form d_is_rule_form d_is_function_form d_is_program_form d_signs_of d_sign_of d_uses_sign d_kind_told d_is_right d_parts_due d_below d_wrong_path d_left_side d_are_among d_kinds_there d_repeated_kind d_wrong_maker d_kinds_with_things d_empty_kind d_wrong_function d_has_overused_name d_wrong_side d_wrong_rule d_first_wrong_place d_same d_l_is_word d_is_new d_is d_size d_has_new d_is_there d_l_is_row d_is_kind d_are_kinds d_kind_formed d_function_formed d_formed d_maker d_head d_told_by d_wrong d_wrong_left d_counted d_l_wrong_rule d_wrong_kinds d_first d_drawn_kinds d_function d_next d_made d_deck d_law d_refused d_pri d_bpi : FuncData}
theorem ok_law (T : Bt mg) (E : Ers K mg) (Pk : PrK K mg a_pri) (F_pri : FnM K "Program.__init__" s_pri a_pri d_pri) (F_bpi : FnM K "BadProgram.__init__" s_bpi a_bpi d_bpi) (iB : PySem.W.findIn K (.ref (aBP K)) "__init__" = some (some (.ref a_bpi))) (tB : PySem.W.typeIn K (.ref a_bpi) = some (.type "function")) (bB : Binds K d_bpi P_bpi []) (bP : Binds K d_pri P_pri [])
    (g_KEPT_WORDS : GlobD K mg "KEPT_WORDS" k_KEPT_WORDS) (g_MOST_LETTERS : GlobD K mg "MOST_LETTERS" k_MOST_LETTERS) (g_LETTERS : GlobD K mg "LETTERS" k_LETTERS) (g_MOST_FIGURES : GlobD K mg "MOST_FIGURES" k_MOST_FIGURES) (g_FIGURES : GlobD K mg "FIGURES" k_FIGURES) (g_MOST_PARTS : GlobD K mg "MOST_PARTS" k_MOST_PARTS) (g_MOST_NODES : GlobD K mg "MOST_NODES" k_MOST_NODES) (g_TRUTH : GlobD K mg "TRUTH" k_TRUTH) (g_MOST_MAKERS : GlobD K mg "MOST_MAKERS" k_MOST_MAKERS) (g_SAYING_DEPTH : GlobD K mg "SAYING_DEPTH" k_SAYING_DEPTH) (g_PATTERN_DEPTH : GlobD K mg "PATTERN_DEPTH" k_PATTERN_DEPTH) (g_MOST_RULES : GlobD K mg "MOST_RULES" k_MOST_RULES) (g_MOST_FUNCTIONS : GlobD K mg "MOST_FUNCTIONS" k_MOST_FUNCTIONS) (g_MOST_KINDS : GlobD K mg "MOST_KINDS" k_MOST_KINDS) (g_TRUTH_MAKERS : GlobD K mg "TRUTH_MAKERS" k_TRUTH_MAKERS) (g_MOST_USES : GlobD K mg "MOST_USES" k_MOST_USES)
    (C_is_text_of : Cal K mg "is_text_of" s_is_text_of P_is_text_of a_is_text_of d_is_text_of) (C_is_word : Cal K mg "is_word" s_is_word P_is_word a_is_word d_is_word) (C_is_new_name : Cal K mg "is_new_name" s_is_new_name P_is_new_name a_is_new_name d_is_new_name) (C_is_node : Cal K mg "is_node" s_is_node P_is_node a_is_node d_is_node) (C_parts_of : Cal K mg "parts_of" s_parts_of P_parts_of a_parts_of d_parts_of) (C_nodes_of : Cal K mg "nodes_of" s_nodes_of P_nodes_of a_nodes_of d_nodes_of) (C_names_of : Cal K mg "names_of" s_names_of P_names_of a_names_of d_names_of) (C_is_row : Cal K mg "is_row" s_is_row P_is_row a_is_row d_is_row) (C_is_sized : Cal K mg "is_sized" s_is_sized P_is_sized a_is_sized d_is_sized) (C_is_written : Cal K mg "is_written" s_is_written P_is_written a_is_written d_is_written) (C_is_kind_name : Cal K mg "is_kind_name" s_is_kind_name P_is_kind_name a_is_kind_name d_is_kind_name) (C_are_kind_names : Cal K mg "are_kind_names" s_are_kind_names P_are_kind_names a_are_kind_names d_are_kind_names) (C_is_maker_form : Cal K mg "is_maker_form" s_is_maker_form P_is_maker_form a_is_maker_form d_is_maker_form) (C_is_kind_form : Cal K mg "is_kind_form" s_is_kind_form P_is_kind_form a_is_kind_form d_is_kind_form) (C_is_rule_form : Cal K mg "is_rule_form" s_is_rule_form P_is_rule_form a_is_rule_form d_is_rule_form) (C_is_function_form : Cal K mg "is_function_form" s_is_function_form P_is_function_form a_is_function_form d_is_function_form) (C_is_program_form : Cal K mg "is_program_form" s_is_program_form P_is_program_form a_is_program_form d_is_program_form) (C_signs_of : Cal K mg "signs_of" s_signs_of P_signs_of a_signs_of d_signs_of) (C_sign_of : Cal K mg "sign_of" s_sign_of P_sign_of a_sign_of d_sign_of) (C_uses_sign : Cal K mg "uses_sign" s_uses_sign P_uses_sign a_uses_sign d_uses_sign) (C_kind_told : Cal K mg "kind_told" s_kind_told P_kind_told a_kind_told d_kind_told) (C_is_right : Cal K mg "is_right" s_is_right P_is_right a_is_right d_is_right) (C_parts_due : Cal K mg "parts_due" s_parts_due P_parts_due a_parts_due d_parts_due) (C_below : Cal K mg "below" s_below P_below a_below d_below) (C_wrong_path : Cal K mg "wrong_path" s_wrong_path P_wrong_path a_wrong_path d_wrong_path) (C_left_side : Cal K mg "left_side" s_left_side P_left_side a_left_side d_left_side) (C_are_among : Cal K mg "are_among" s_are_among P_are_among a_are_among d_are_among) (C_kinds_there : Cal K mg "kinds_there" s_kinds_there P_kinds_there a_kinds_there d_kinds_there) (C_repeated_kind : Cal K mg "repeated_kind" s_repeated_kind P_repeated_kind a_repeated_kind d_repeated_kind) (C_wrong_maker : Cal K mg "wrong_maker" s_wrong_maker P_wrong_maker a_wrong_maker d_wrong_maker) (C_kinds_with_things : Cal K mg "kinds_with_things" s_kinds_with_things P_kinds_with_things a_kinds_with_things d_kinds_with_things) (C_empty_kind : Cal K mg "empty_kind" s_empty_kind P_empty_kind a_empty_kind d_empty_kind) (C_wrong_function : Cal K mg "wrong_function" s_wrong_function P_wrong_function a_wrong_function d_wrong_function) (C_has_overused_name : Cal K mg "has_overused_name" s_has_overused_name P_has_overused_name a_has_overused_name d_has_overused_name) (C_wrong_side : Cal K mg "wrong_side" s_wrong_side P_wrong_side a_wrong_side d_wrong_side) (C_wrong_rule : Cal K mg "wrong_rule" s_wrong_rule P_wrong_rule a_wrong_rule d_wrong_rule) (C_first_wrong_place : Cal K mg "first_wrong_place" s_first_wrong_place P_first_wrong_place a_first_wrong_place d_first_wrong_place) (C_same : Cal K mg "_law_same" s_same P_same a_same d_same) (C_l_is_word : Cal K mg "_law_is_word" s_l_is_word P_l_is_word a_l_is_word d_l_is_word) (C_is_new : Cal K mg "_law_is_new" s_is_new P_is_new a_is_new d_is_new) (C_is : Cal K mg "_law_is" s_is P_is a_is d_is) (C_size : Cal K mg "_law_size" s_size P_size a_size d_size) (C_has_new : Cal K mg "_law_has_new" s_has_new P_has_new a_has_new d_has_new) (C_is_there : Cal K mg "_law_is_there" s_is_there P_is_there a_is_there d_is_there) (C_l_is_row : Cal K mg "_law_is_row" s_l_is_row P_l_is_row a_l_is_row d_l_is_row) (C_is_kind : Cal K mg "_law_is_kind" s_is_kind P_is_kind a_is_kind d_is_kind) (C_are_kinds : Cal K mg "_law_are_kinds" s_are_kinds P_are_kinds a_are_kinds d_are_kinds) (C_kind_formed : Cal K mg "_law_kind_formed" s_kind_formed P_kind_formed a_kind_formed d_kind_formed) (C_function_formed : Cal K mg "_law_function_formed" s_function_formed P_function_formed a_function_formed d_function_formed) (C_formed : Cal K mg "_law_formed" s_formed P_formed a_formed d_formed) (C_maker : Cal K mg "_law_maker" s_maker P_maker a_maker d_maker) (C_head : Cal K mg "_law_head" s_head P_head a_head d_head) (C_told_by : Cal K mg "_law_told_by" s_told_by P_told_by a_told_by d_told_by) (C_wrong : Cal K mg "_law_wrong" s_wrong P_wrong a_wrong d_wrong) (C_wrong_left : Cal K mg "_law_wrong_left" s_wrong_left P_wrong_left a_wrong_left d_wrong_left) (C_counted : Cal K mg "_law_counted" s_counted P_counted a_counted d_counted) (C_l_wrong_rule : Cal K mg "_law_wrong_rule" s_l_wrong_rule P_l_wrong_rule a_l_wrong_rule d_l_wrong_rule) (C_wrong_kinds : Cal K mg "_law_wrong_kinds" s_wrong_kinds P_wrong_kinds a_wrong_kinds d_wrong_kinds) (C_first : Cal K mg "_law_first" s_first P_first a_first d_first) (C_drawn_kinds : Cal K mg "_law_drawn_kinds" s_drawn_kinds P_drawn_kinds a_drawn_kinds d_drawn_kinds) (C_function : Cal K mg "_law_function" s_function P_function a_function d_function) (C_next : Cal K mg "_law_next" s_next P_next a_next d_next) (C_made : Cal K mg "_law_made" s_made P_made a_made d_made) (C_deck : Cal K mg "_law_deck" s_deck P_deck a_deck d_deck) (C_law : Cal K mg "law" s_law P_law a_law d_law) (C_refused : Cal K mg "_law_refused" s_refused P_refused a_refused d_refused) :
    FnOk P w K mg base CX0 14 a_law d_law P_law (spLaw K) := by
  refine C_law.F.ok sc_law (fun vs H Q E h => ?_) (fun cdv A outer s H vs Q E' hr h => ?_)
  · obtain ⟨a, ns, rfl, _⟩ := h
    rfl
  obtain ⟨a, ns, rfl, hS, h63, q⟩ := h
  have H_deck := ok_deck (P := P) (w := w) (base := base) T C_deck
  have tail : ∀ i : LawI, PSs (cxOf CX0 P w K mg base N_law "law" (defScope s_law) a_law cdv A outer s H E').nox ((defBody s_law).drop 1) (upS ⟨⟨K, i.d⟩, WdO i.d i.g i.c i.ds i.cs, ow_law, i.H0, i.R0⟩
      (b_law (F_same 3) F_md G_fi (nxS (strO i.ds i.cs)) F_fn (F_dk (strO i.ds i.cs)))) := fun i => by
    have H_next : FnOk P w K mg base CX0 1 a_next d_next P_next (spM ⟨K, i.d⟩ (WdO i.d i.g i.c i.ds i.cs) (nxS (strO i.ds i.cs))) := ok_nextM (ok_next T C_next)
    have H_same : ∀ n, FnOk P w K mg base CX0 n a_same d_same P_same (spM ⟨K, i.d⟩ (WdO i.d i.g i.c i.ds i.cs) (F_same n)) := fun n => by
      induction n with
      | zero => exact never
      | succ k ih => exact ok_same T C_same ih
    have H_is_text_of : FnOk P w K mg base CX0 1 a_is_text_of d_is_text_of P_is_text_of (spM ⟨K, i.d⟩ (WdO i.d i.g i.c i.ds i.cs) F_text) := ok_is_text_of (k := 0) T C_is_text_of
    have H_is_word : FnOk P w K mg base CX0 2 a_is_word d_is_word P_is_word (spM ⟨K, i.d⟩ (WdO i.d i.g i.c i.ds i.cs) F_word) := ok_is_word (k := 1) T C_is_word C_is_text_of (H_is_text_of.mono (by omega)) g_KEPT_WORDS g_MOST_LETTERS g_LETTERS
    have H_is_node : FnOk P w K mg base CX0 3 a_is_node d_is_node P_is_node (spM ⟨K, i.d⟩ (WdO i.d i.g i.c i.ds i.cs) F_nd) := ok_is_node (k := 2) T C_is_node C_is_word (H_is_word.mono (by omega)) C_is_new_name never g_MOST_PARTS
    have H_parts_of : FnOk P w K mg base CX0 1 a_parts_of d_parts_of P_parts_of (spM ⟨K, i.d⟩ (WdO i.d i.g i.c i.ds i.cs) F_po) := ok_parts_of (k := 0) T C_parts_of
    have H_nodes_of : FnOk P w K mg base CX0 2 a_nodes_of d_nodes_of P_nodes_of (spM ⟨K, i.d⟩ (WdO i.d i.g i.c i.ds i.cs) F_ns) := ok_nodes_of (k := 1) T C_nodes_of C_parts_of (H_parts_of.mono (by omega))
    have H_names_of : FnOk P w K mg base CX0 3 a_names_of d_names_of P_names_of (spM ⟨K, i.d⟩ (WdO i.d i.g i.c i.ds i.cs) F_nm) := ok_names_of (k := 2) T C_names_of C_nodes_of (H_nodes_of.mono (by omega))
    have H_is_row : FnOk P w K mg base CX0 1 a_is_row d_is_row P_is_row (spM ⟨K, i.d⟩ (WdO i.d i.g i.c i.ds i.cs) F_row) := ok_is_row (k := 0) T C_is_row
    have H_is_sized : FnOk P w K mg base CX0 4 a_is_sized d_is_sized P_is_sized (spM ⟨K, i.d⟩ (WdO i.d i.g i.c i.ds i.cs) F_sz) := ok_is_sized (k := 3) T C_is_sized C_parts_of (H_parts_of.mono (by omega)) C_is_node (H_is_node.mono (by omega)) g_MOST_NODES
    have H_is_written : FnOk P w K mg base CX0 5 a_is_written d_is_written P_is_written (spM ⟨K, i.d⟩ (WdO i.d i.g i.c i.ds i.cs) F_wr') := ok_is_written (k := 4) T C_is_written C_names_of (H_names_of.mono (by omega)) C_is_word (H_is_word.mono (by omega)) C_is_sized (H_is_sized.mono (by omega))
    have H_is_kind_name : FnOk P w K mg base CX0 3 a_is_kind_name d_is_kind_name P_is_kind_name (spM ⟨K, i.d⟩ (WdO i.d i.g i.c i.ds i.cs) F_kn) := ok_is_kind_name (k := 2) T C_is_kind_name C_is_word (H_is_word.mono (by omega)) g_TRUTH
    have H_are_kind_names : FnOk P w K mg base CX0 4 a_are_kind_names d_are_kind_names P_are_kind_names (spM ⟨K, i.d⟩ (WdO i.d i.g i.c i.ds i.cs) F_kns) := ok_are_kind_names (k := 3) T C_are_kind_names C_is_kind_name (H_is_kind_name.mono (by omega)) C_is_row (H_is_row.mono (by omega)) g_MOST_PARTS
    have H_is_maker_form : FnOk P w K mg base CX0 5 a_is_maker_form d_is_maker_form P_is_maker_form (spM ⟨K, i.d⟩ (WdO i.d i.g i.c i.ds i.cs) F_mf) := ok_is_maker_form (k := 4) T C_is_maker_form C_are_kind_names (H_are_kind_names.mono (by omega)) C_is_word (H_is_word.mono (by omega)) C_is_row (H_is_row.mono (by omega))
    have H_is_kind_form : FnOk P w K mg base CX0 6 a_is_kind_form d_is_kind_form P_is_kind_form (spM ⟨K, i.d⟩ (WdO i.d i.g i.c i.ds i.cs) F_kf) := ok_is_kind_form (k := 5) T C_is_kind_form C_is_maker_form (H_is_maker_form.mono (by omega)) C_is_row (H_is_row.mono (by omega)) C_is_word (H_is_word.mono (by omega)) g_MOST_MAKERS
    have H_is_rule_form : FnOk P w K mg base CX0 6 a_is_rule_form d_is_rule_form P_is_rule_form (spM ⟨K, i.d⟩ (WdO i.d i.g i.c i.ds i.cs) F_rf) := ok_is_rule_form (k := 5) T C_is_rule_form C_is_written (H_is_written.mono (by omega)) C_is_row (H_is_row.mono (by omega)) g_SAYING_DEPTH g_PATTERN_DEPTH
    have H_is_function_form : FnOk P w K mg base CX0 7 a_is_function_form d_is_function_form P_is_function_form (spM ⟨K, i.d⟩ (WdO i.d i.g i.c i.ds i.cs) F_ff) := ok_is_function_form (k := 6) T C_is_function_form C_is_rule_form (H_is_rule_form.mono (by omega)) C_is_row (H_is_row.mono (by omega)) C_is_kind_name (H_is_kind_name.mono (by omega)) C_are_kind_names (H_are_kind_names.mono (by omega)) C_is_word (H_is_word.mono (by omega)) g_MOST_RULES
    have H_is_program_form : FnOk P w K mg base CX0 8 a_is_program_form d_is_program_form P_is_program_form (spM ⟨K, i.d⟩ (WdO i.d i.g i.c i.ds i.cs) (F_pf F_ff)) := ok_is_program_form (k := 7) T C_is_program_form C_is_function_form (H_is_function_form.mono (by omega)) C_is_kind_form (H_is_kind_form.mono (by omega)) C_is_row (H_is_row.mono (by omega)) g_MOST_FUNCTIONS g_MOST_KINDS
    have H_signs_of : FnOk P w K mg base CX0 1 a_signs_of d_signs_of P_signs_of (spM ⟨K, i.d⟩ (WdO i.d i.g i.c i.ds i.cs) F_sg) := ok_signs_of (k := 0) T C_signs_of g_TRUTH_MAKERS g_TRUTH
    have H_sign_of : FnOk P w K mg base CX0 1 a_sign_of d_sign_of P_sign_of (spM ⟨K, i.d⟩ (WdO i.d i.g i.c i.ds i.cs) F_so) := ok_sign_of (k := 0) T C_sign_of
    have H_uses_sign : FnOk P w K mg base CX0 2 a_uses_sign d_uses_sign P_uses_sign (spM ⟨K, i.d⟩ (WdO i.d i.g i.c i.ds i.cs) F_us) := ok_uses_sign (k := 1) T C_uses_sign C_sign_of (H_sign_of.mono (by omega))
    have H_is_right : FnOk P w K mg base CX0 3 a_is_right d_is_right P_is_right (spM ⟨K, i.d⟩ (WdO i.d i.g i.c i.ds i.cs) F_ir) := ok_is_right (k := 2) T C_is_right C_uses_sign (H_uses_sign.mono (by omega)) g_TRUTH
    have H_parts_due : FnOk P w K mg base CX0 1 a_parts_due d_parts_due P_parts_due (spM ⟨K, i.d⟩ (WdO i.d i.g i.c i.ds i.cs) F_pd) := ok_parts_due (k := 0) T C_parts_due C_kind_told never
    have H_below : FnOk P w K mg base CX0 1 a_below d_below P_below (spO ⟨K, i.d⟩ (WdO i.d i.g i.c i.ds i.cs) F_be) := ok_below (k := 0) T C_below
    have H_wrong_path : FnOk P w K mg base CX0 4 a_wrong_path d_wrong_path P_wrong_path (spM ⟨K, i.d⟩ (WdO i.d i.g i.c i.ds i.cs) F_wp) := ok_wrong_path (k := 3) T C_wrong_path C_below (H_below.mono (by omega)) C_parts_due (H_parts_due.mono (by omega)) C_is_right (H_is_right.mono (by omega))
    have H_left_side : FnOk P w K mg base CX0 3 a_left_side d_left_side P_left_side (spM ⟨K, i.d⟩ (WdO i.d i.g i.c i.ds i.cs) F_ls) := ok_left_side (k := 2) T C_left_side C_uses_sign (H_uses_sign.mono (by omega)) C_below (H_below.mono (by omega))
    have H_are_among : FnOk P w K mg base CX0 1 a_are_among d_are_among P_are_among (spM ⟨K, i.d⟩ (WdO i.d i.g i.c i.ds i.cs) F_am) := ok_are_among (k := 0) T C_are_among
    have H_kinds_there : FnOk P w K mg base CX0 1 a_kinds_there d_kinds_there P_kinds_there (spM ⟨K, i.d⟩ (WdO i.d i.g i.c i.ds i.cs) F_kt) := ok_kinds_there (k := 0) T C_kinds_there g_TRUTH
    have H_repeated_kind : FnOk P w K mg base CX0 1 a_repeated_kind d_repeated_kind P_repeated_kind (spM ⟨K, i.d⟩ (WdO i.d i.g i.c i.ds i.cs) F_rk) := ok_repeated_kind (k := 0) T C_repeated_kind
    have H_wrong_maker : FnOk P w K mg base CX0 2 a_wrong_maker d_wrong_maker P_wrong_maker (spM ⟨K, i.d⟩ (WdO i.d i.g i.c i.ds i.cs) F_wm) := ok_wrong_maker (k := 1) T C_wrong_maker C_are_among (H_are_among.mono (by omega)) C_kinds_there (H_kinds_there.mono (by omega)) g_TRUTH_MAKERS
    have H_kinds_with_things : FnOk P w K mg base CX0 2 a_kinds_with_things d_kinds_with_things P_kinds_with_things (spM ⟨K, i.d⟩ (WdO i.d i.g i.c i.ds i.cs) F_th) := ok_kinds_with_things (k := 1) T C_kinds_with_things C_are_among (H_are_among.mono (by omega)) g_TRUTH
    have H_empty_kind : FnOk P w K mg base CX0 3 a_empty_kind d_empty_kind P_empty_kind (spM ⟨K, i.d⟩ (WdO i.d i.g i.c i.ds i.cs) F_ek) := ok_empty_kind (k := 2) T C_empty_kind C_kinds_with_things (H_kinds_with_things.mono (by omega))
    have H_wrong_function : FnOk P w K mg base CX0 2 a_wrong_function d_wrong_function P_wrong_function (spM ⟨K, i.d⟩ (WdO i.d i.g i.c i.ds i.cs) F_wf) := ok_wrong_function (k := 1) T C_wrong_function C_are_among (H_are_among.mono (by omega)) C_signs_of (H_signs_of.mono (by omega)) C_kinds_there (H_kinds_there.mono (by omega))
    have H_has_overused_name : FnOk P w K mg base CX0 3 a_has_overused_name d_has_overused_name P_has_overused_name (spM ⟨K, i.d⟩ (WdO i.d i.g i.c i.ds i.cs) F_ho) := ok_has_overused_name (k := 2) T C_has_overused_name C_nodes_of (H_nodes_of.mono (by omega)) g_MOST_USES
    have H_wrong_side : FnOk P w K mg base CX0 5 a_wrong_side d_wrong_side P_wrong_side (spM ⟨K, i.d⟩ (WdO i.d i.g i.c i.ds i.cs) F_ws) := ok_wrong_side (k := 4) T C_wrong_side C_has_overused_name (H_has_overused_name.mono (by omega)) C_wrong_path (H_wrong_path.mono (by omega)) C_left_side (H_left_side.mono (by omega))
    have H_wrong_rule : FnOk P w K mg base CX0 6 a_wrong_rule d_wrong_rule P_wrong_rule (spM ⟨K, i.d⟩ (WdO i.d i.g i.c i.ds i.cs) (F_wr F_ws)) := ok_wrong_rule (k := 5) T C_wrong_rule C_wrong_side (H_wrong_side.mono (by omega)) C_signs_of (H_signs_of.mono (by omega))
    have H_first_wrong_place : FnOk P w K mg base CX0 9 a_first_wrong_place d_first_wrong_place P_first_wrong_place (spM ⟨K, i.d⟩ (WdO i.d i.g i.c i.ds i.cs) (F_fwp F_ff F_ws)) := ok_first_wrong_place (k := 8) T C_first_wrong_place C_wrong_rule (H_wrong_rule.mono (by omega)) C_wrong_function (H_wrong_function.mono (by omega)) C_empty_kind (H_empty_kind.mono (by omega)) C_wrong_maker (H_wrong_maker.mono (by omega)) C_repeated_kind (H_repeated_kind.mono (by omega)) C_is_program_form (H_is_program_form.mono (by omega))
    have H_l_is_word : FnOk P w K mg base CX0 1 a_l_is_word d_l_is_word P_l_is_word (spM ⟨K, i.d⟩ (WdO i.d i.g i.c i.ds i.cs) G_word) := ok_l_is_word (k := 0) T C_l_is_word
    have H_is_new : FnOk P w K mg base CX0 1 a_is_new d_is_new P_is_new (spM ⟨K, i.d⟩ (WdO i.d i.g i.c i.ds i.cs) G_new) := ok_is_new (k := 0) T C_is_new
    have H_is : FnOk P w K mg base CX0 2 a_is d_is P_is (spM ⟨K, i.d⟩ (WdO i.d i.g i.c i.ds i.cs) (G_is 1)) := ok_is (k := 1) T C_is never C_l_is_word (H_l_is_word.mono (by omega)) C_is_new (H_is_new.mono (by omega))
    have H_size : FnOk P w K mg base CX0 1 a_size d_size P_size (spM ⟨K, i.d⟩ (WdO i.d i.g i.c i.ds i.cs) (G_size 1)) := ok_size (k := 0) T C_size never
    have H_has_new : FnOk P w K mg base CX0 2 a_has_new d_has_new P_has_new (spM ⟨K, i.d⟩ (WdO i.d i.g i.c i.ds i.cs) (G_hn 1)) := ok_has_new (k := 1) T C_has_new never C_is_new (H_is_new.mono (by omega))
    have H_is_there : FnOk P w K mg base CX0 3 a_is_there d_is_there P_is_there (spM ⟨K, i.d⟩ (WdO i.d i.g i.c i.ds i.cs) G_th) := ok_is_there (k := 2) T C_is_there C_has_new (H_has_new.mono (by omega)) C_size (H_size.mono (by omega)) C_is (H_is.mono (by omega))
    have H_l_is_row : FnOk P w K mg base CX0 1 a_l_is_row d_l_is_row P_l_is_row (spM ⟨K, i.d⟩ (WdO i.d i.g i.c i.ds i.cs) G_row) := ok_l_is_row (k := 0) T C_l_is_row
    have H_is_kind : FnOk P w K mg base CX0 2 a_is_kind d_is_kind P_is_kind (spM ⟨K, i.d⟩ (WdO i.d i.g i.c i.ds i.cs) G_kn) := ok_is_kind (k := 1) T C_is_kind C_l_is_word (H_l_is_word.mono (by omega))
    have H_are_kinds : FnOk P w K mg base CX0 3 a_are_kinds d_are_kinds P_are_kinds (spM ⟨K, i.d⟩ (WdO i.d i.g i.c i.ds i.cs) G_kns) := ok_are_kinds (k := 2) T C_are_kinds C_is_kind (H_is_kind.mono (by omega)) C_l_is_row (H_l_is_row.mono (by omega))
    have H_kind_formed : FnOk P w K mg base CX0 4 a_kind_formed d_kind_formed P_kind_formed (spM ⟨K, i.d⟩ (WdO i.d i.g i.c i.ds i.cs) G_kf) := ok_kind_formed (k := 3) T C_kind_formed C_are_kinds (H_are_kinds.mono (by omega)) C_l_is_word (H_l_is_word.mono (by omega)) C_l_is_row (H_l_is_row.mono (by omega))
    have H_function_formed : FnOk P w K mg base CX0 4 a_function_formed d_function_formed P_function_formed (spM ⟨K, i.d⟩ (WdO i.d i.g i.c i.ds i.cs) G_ff) := ok_function_formed (k := 3) T C_function_formed C_is_there (H_is_there.mono (by omega)) C_l_is_row (H_l_is_row.mono (by omega)) C_is_kind (H_is_kind.mono (by omega)) C_are_kinds (H_are_kinds.mono (by omega)) C_l_is_word (H_l_is_word.mono (by omega))
    have H_formed : FnOk P w K mg base CX0 5 a_formed d_formed P_formed (spM ⟨K, i.d⟩ (WdO i.d i.g i.c i.ds i.cs) G_fm) := ok_formed (k := 4) T C_formed C_function_formed (H_function_formed.mono (by omega)) C_kind_formed (H_kind_formed.mono (by omega)) C_l_is_row (H_l_is_row.mono (by omega))
    have H_maker : FnOk P w K mg base CX0 1 a_maker d_maker P_maker (spM ⟨K, i.d⟩ (WdO i.d i.g i.c i.ds i.cs) F_mk) := ok_maker (k := 0) T C_maker
    have H_head : FnOk P w K mg base CX0 1 a_head d_head P_head (spM ⟨K, i.d⟩ (WdO i.d i.g i.c i.ds i.cs) G_hd) := ok_head (k := 0) T C_head
    have H_wrong : FnOk P w K mg base CX0 2 a_wrong d_wrong P_wrong (spM ⟨K, i.d⟩ (WdO i.d i.g i.c i.ds i.cs) G_wg) := ok_wrong (k := 1) T C_wrong never C_told_by never C_head (H_head.mono (by omega)) C_maker (H_maker.mono (by omega))
    have H_l_wrong_rule : FnOk P w K mg base CX0 3 a_l_wrong_rule d_l_wrong_rule P_l_wrong_rule (spM ⟨K, i.d⟩ (WdO i.d i.g i.c i.ds i.cs) G_wr) := ok_l_wrong_rule (k := 2) T C_l_wrong_rule C_wrong (H_wrong.mono (by omega)) C_wrong_left never
    have H_wrong_kinds : FnOk P w K mg base CX0 1 a_wrong_kinds d_wrong_kinds P_wrong_kinds (spM ⟨K, i.d⟩ (WdO i.d i.g i.c i.ds i.cs) F_wk) := ok_wrong_kinds (k := 0) T C_wrong_kinds
    have H_first : FnOk P w K mg base CX0 6 a_first d_first P_first (spM ⟨K, i.d⟩ (WdO i.d i.g i.c i.ds i.cs) G_fi) := ok_first (k := 5) T C_first C_l_wrong_rule (H_l_wrong_rule.mono (by omega)) C_maker (H_maker.mono (by omega)) C_wrong_kinds (H_wrong_kinds.mono (by omega)) C_formed (H_formed.mono (by omega))
    have H_drawn_kinds : FnOk P w K mg base CX0 2 a_drawn_kinds d_drawn_kinds P_drawn_kinds (spM ⟨K, i.d⟩ (WdO i.d i.g i.c i.ds i.cs) (F_dk (strO i.ds i.cs))) := ok_drawn_kinds (k := 1) T C_drawn_kinds C_next (H_next.mono (by omega))
    have H_function : FnOk P w K mg base CX0 1 a_function d_function P_function (spM ⟨K, i.d⟩ (WdO i.d i.g i.c i.ds i.cs) F_fn) := ok_function (k := 0) T C_function
    have H_pri : FnOk P w K mg base (L2.CX P w) 11 a_pri d_pri P_pri (spPI K ⟨K, i.d⟩ (WdO i.d i.g i.c i.ds i.cs) (F_fwp F_ff F_ws)) := ok_pri (k := 8) T E Pk F_pri F_bpi iB tB bB C_first_wrong_place H_first_wrong_place
    have H_made : FnOk P w K mg base CX0 13 a_made d_made P_made (spM ⟨K, i.d⟩ (WdO i.d i.g i.c i.ds i.cs) F_md) := ok_made (k := 10) T E Pk C_made C_refused bP H_pri
    exact (db_law (k := 13) (a_law := a_law) (d_law := d_law) T C_same ((H_same 3).mono (by omega)) C_made (H_made.mono (by omega)) C_first (H_first.mono (by omega)) C_next (H_next.mono (by omega)) C_function (H_function.mono (by omega)) C_drawn_kinds (H_drawn_kinds.mono (by omega)) cdv A outer s H E' i.H0 i.R0 hr).p
  refine ⟨_, PSs.nox (pss_cons (ps_set (i := 1) sc_law.nd rfl (Or.inl rfl) (pe_call H_deck (hr.mono (by omega)) (by rfl) C_deck.m C_deck.F.kp C_deck.b .nil pass0 (pa_cons (pv 0) pa_nil))) (PSs.all tail)), ?_⟩
  refine ⟨_, rfl, a, ns, rfl, hS, h63, fun d g c ds cs H1 D1 S1 hd hg hc => ?_⟩
  have D2 : (WdO d g c ds cs).st 0 H1 := by
    show DkO H1 d g c (ds.drop 0) cs (0 - ds.length)
    rw [List.drop_zero, Nat.zero_sub]; exact D1
  obtain ⟨m, em⟩ := law_f (f := strO ds cs) (fun n => strO_range D1.ds cs n) (x0 := none)
  refine ⟨⟨d, g, c, ds, cs, H1, fun _ => none⟩, fun _ => none, _, 0, _, m, ⟨rfl, fun i e _ he => ?_, fun i e hi => (nomatch hi), fun i j b e e' hi => (nomatch hi), ⟨fun _ _ z => (nomatch z), fun _ _ => rfl, fun x hx => ?_, D2, Keep.refl _ _, Same.refl _, fun x z => absurd rfl z⟩⟩, em, fun v R' H' _ z => ?_⟩
  · have hi : i = 1 := by
      match i, he with
      | 0, he => cases he
      | 1, _ => rfl
      | i + 2, he =>
        exfalso
        have : ∀ j, ([none, none, none, none, none] : List (Option D))[j]? ≠ some (some e) := fun j hj => by
          have := List.mem_of_getElem? hj
          simp at this
        exact this i he
    subst hi
    cases he
    exact ⟨.ref d, rfl, .deck⟩
  · exact (WdO d g c ds cs).there 0 H1 D2 x hx
  · cases z
    exact q H'
end
end Sh


set_option Elab.async false
set_option linter.all false
set_option maxRecDepth 100000
set_option maxHeartbeats 0
namespace Sh
open PySem L2 Nf
theorem facts {P : Program} {w : World} {K : PySem.W.Frag} {h : Heap} {mg : Str → Option Value} {f : Addr} (X : K.In h) (G : h.Ns mainGlobals mg) (hfa : mg ("law" : Str) = some (.ref f)) (c : He.SaysD fas fns K) (cx : exB K = true) :
    ∃ fd : FuncData, (∀ (s : Shared) (v : Value), BindsTo s fd ⟨[v], []⟩ [("_law_script", v)]) ∧ ∀ base : Heap, K.In base → base.Ns mainGlobals mg → FnOk P w K mg base CX0 14 f fd ["_law_script"] (spLaw K) := by
  obtain ⟨e_is_text_of, F0_is_text_of⟩ := c.def_ 0 (d := dd_is_text_of) rfl
  have C_is_text_of : Cal K mg "is_text_of" s_is_text_of P_is_text_of _ e_is_text_of := ⟨F0_is_text_of, He.glo_ok X G (c.fact 0 (f := .glo "is_text_of") rfl), FunD.bindsN (ps := P_is_text_of) F0_is_text_of fun _ _ _ _ _ _ us hl => match us, hl with | [_, _, _], _ => rfl⟩
  obtain ⟨e_is_word, F0_is_word⟩ := c.def_ 1 (d := dd_is_word) rfl
  have C_is_word : Cal K mg "is_word" s_is_word P_is_word _ e_is_word := ⟨F0_is_word, He.glo_ok X G (c.fact 1 (f := .glo "is_word") rfl), FunD.bindsN (ps := P_is_word) F0_is_word fun _ _ _ _ _ _ us hl => match us, hl with | [_], _ => rfl⟩
  obtain ⟨e_is_new_name, F0_is_new_name⟩ := c.def_ 2 (d := dd_is_new_name) rfl
  have C_is_new_name : Cal K mg "is_new_name" s_is_new_name P_is_new_name _ e_is_new_name := ⟨F0_is_new_name, He.glo_ok X G (c.fact 2 (f := .glo "is_new_name") rfl), FunD.bindsN (ps := P_is_new_name) F0_is_new_name fun _ _ _ _ _ _ us hl => match us, hl with | [_], _ => rfl⟩
  obtain ⟨e_is_node, F0_is_node⟩ := c.def_ 3 (d := dd_is_node) rfl
  have C_is_node : Cal K mg "is_node" s_is_node P_is_node _ e_is_node := ⟨F0_is_node, He.glo_ok X G (c.fact 3 (f := .glo "is_node") rfl), FunD.bindsN (ps := P_is_node) F0_is_node fun _ _ _ _ _ _ us hl => match us, hl with | [_], _ => rfl⟩
  obtain ⟨e_parts_of, F0_parts_of⟩ := c.def_ 4 (d := dd_parts_of) rfl
  have C_parts_of : Cal K mg "parts_of" s_parts_of P_parts_of _ e_parts_of := ⟨F0_parts_of, He.glo_ok X G (c.fact 4 (f := .glo "parts_of") rfl), FunD.bindsN (ps := P_parts_of) F0_parts_of fun _ _ _ _ _ _ us hl => match us, hl with | [_], _ => rfl⟩
  obtain ⟨e_nodes_of, F0_nodes_of⟩ := c.def_ 5 (d := dd_nodes_of) rfl
  have C_nodes_of : Cal K mg "nodes_of" s_nodes_of P_nodes_of _ e_nodes_of := ⟨F0_nodes_of, He.glo_ok X G (c.fact 5 (f := .glo "nodes_of") rfl), FunD.bindsN (ps := P_nodes_of) F0_nodes_of fun _ _ _ _ _ _ us hl => match us, hl with | [_], _ => rfl⟩
  obtain ⟨e_names_of, F0_names_of⟩ := c.def_ 6 (d := dd_names_of) rfl
  have C_names_of : Cal K mg "names_of" s_names_of P_names_of _ e_names_of := ⟨F0_names_of, He.glo_ok X G (c.fact 6 (f := .glo "names_of") rfl), FunD.bindsN (ps := P_names_of) F0_names_of fun _ _ _ _ _ _ us hl => match us, hl with | [_], _ => rfl⟩
  obtain ⟨e_is_row, F0_is_row⟩ := c.def_ 7 (d := dd_is_row) rfl
  have C_is_row : Cal K mg "is_row" s_is_row P_is_row _ e_is_row := ⟨F0_is_row, He.glo_ok X G (c.fact 7 (f := .glo "is_row") rfl), FunD.bindsN (ps := P_is_row) F0_is_row fun _ _ _ _ _ _ us hl => match us, hl with | [_, _, _], _ => rfl⟩
  obtain ⟨e_is_sized, F0_is_sized⟩ := c.def_ 8 (d := dd_is_sized) rfl
  have C_is_sized : Cal K mg "is_sized" s_is_sized P_is_sized _ e_is_sized := ⟨F0_is_sized, He.glo_ok X G (c.fact 8 (f := .glo "is_sized") rfl), FunD.bindsN (ps := P_is_sized) F0_is_sized fun _ _ _ _ _ _ us hl => match us, hl with | [_, _], _ => rfl⟩
  obtain ⟨e_is_written, F0_is_written⟩ := c.def_ 9 (d := dd_is_written) rfl
  have C_is_written : Cal K mg "is_written" s_is_written P_is_written _ e_is_written := ⟨F0_is_written, He.glo_ok X G (c.fact 9 (f := .glo "is_written") rfl), FunD.bindsN (ps := P_is_written) F0_is_written fun _ _ _ _ _ _ us hl => match us, hl with | [_, _], _ => rfl⟩
  obtain ⟨e_is_kind_name, F0_is_kind_name⟩ := c.def_ 10 (d := dd_is_kind_name) rfl
  have C_is_kind_name : Cal K mg "is_kind_name" s_is_kind_name P_is_kind_name _ e_is_kind_name := ⟨F0_is_kind_name, He.glo_ok X G (c.fact 10 (f := .glo "is_kind_name") rfl), FunD.bindsN (ps := P_is_kind_name) F0_is_kind_name fun _ _ _ _ _ _ us hl => match us, hl with | [_], _ => rfl⟩
  obtain ⟨e_are_kind_names, F0_are_kind_names⟩ := c.def_ 11 (d := dd_are_kind_names) rfl
  have C_are_kind_names : Cal K mg "are_kind_names" s_are_kind_names P_are_kind_names _ e_are_kind_names := ⟨F0_are_kind_names, He.glo_ok X G (c.fact 11 (f := .glo "are_kind_names") rfl), FunD.bindsN (ps := P_are_kind_names) F0_are_kind_names fun _ _ _ _ _ _ us hl => match us, hl with | [_], _ => rfl⟩
  obtain ⟨e_is_maker_form, F0_is_maker_form⟩ := c.def_ 12 (d := dd_is_maker_form) rfl
  have C_is_maker_form : Cal K mg "is_maker_form" s_is_maker_form P_is_maker_form _ e_is_maker_form := ⟨F0_is_maker_form, He.glo_ok X G (c.fact 12 (f := .glo "is_maker_form") rfl), FunD.bindsN (ps := P_is_maker_form) F0_is_maker_form fun _ _ _ _ _ _ us hl => match us, hl with | [_], _ => rfl⟩
  obtain ⟨e_is_kind_form, F0_is_kind_form⟩ := c.def_ 13 (d := dd_is_kind_form) rfl
  have C_is_kind_form : Cal K mg "is_kind_form" s_is_kind_form P_is_kind_form _ e_is_kind_form := ⟨F0_is_kind_form, He.glo_ok X G (c.fact 13 (f := .glo "is_kind_form") rfl), FunD.bindsN (ps := P_is_kind_form) F0_is_kind_form fun _ _ _ _ _ _ us hl => match us, hl with | [_], _ => rfl⟩
  obtain ⟨e_is_rule_form, F0_is_rule_form⟩ := c.def_ 14 (d := dd_is_rule_form) rfl
  have C_is_rule_form : Cal K mg "is_rule_form" s_is_rule_form P_is_rule_form _ e_is_rule_form := ⟨F0_is_rule_form, He.glo_ok X G (c.fact 14 (f := .glo "is_rule_form") rfl), FunD.bindsN (ps := P_is_rule_form) F0_is_rule_form fun _ _ _ _ _ _ us hl => match us, hl with | [_], _ => rfl⟩
  obtain ⟨e_is_function_form, F0_is_function_form⟩ := c.def_ 15 (d := dd_is_function_form) rfl
  have C_is_function_form : Cal K mg "is_function_form" s_is_function_form P_is_function_form _ e_is_function_form := ⟨F0_is_function_form, He.glo_ok X G (c.fact 15 (f := .glo "is_function_form") rfl), FunD.bindsN (ps := P_is_function_form) F0_is_function_form fun _ _ _ _ _ _ us hl => match us, hl with | [_], _ => rfl⟩
  obtain ⟨e_is_program_form, F0_is_program_form⟩ := c.def_ 16 (d := dd_is_program_form) rfl
  have C_is_program_form : Cal K mg "is_program_form" s_is_program_form P_is_program_form _ e_is_program_form := ⟨F0_is_program_form, He.glo_ok X G (c.fact 16 (f := .glo "is_program_form") rfl), FunD.bindsN (ps := P_is_program_form) F0_is_program_form fun _ _ _ _ _ _ us hl => match us, hl with | [_, _], _ => rfl⟩
  obtain ⟨e_signs_of, F0_signs_of⟩ := c.def_ 17 (d := dd_signs_of) rfl
  have C_signs_of : Cal K mg "signs_of" s_signs_of P_signs_of _ e_signs_of := ⟨F0_signs_of, He.glo_ok X G (c.fact 17 (f := .glo "signs_of") rfl), FunD.bindsN (ps := P_signs_of) F0_signs_of fun _ _ _ _ _ _ us hl => match us, hl with | [_, _], _ => rfl⟩
  obtain ⟨e_sign_of, F0_sign_of⟩ := c.def_ 18 (d := dd_sign_of) rfl
  have C_sign_of : Cal K mg "sign_of" s_sign_of P_sign_of _ e_sign_of := ⟨F0_sign_of, He.glo_ok X G (c.fact 18 (f := .glo "sign_of") rfl), FunD.bindsN (ps := P_sign_of) F0_sign_of fun _ _ _ _ _ _ us hl => match us, hl with | [_, _], _ => rfl⟩
  obtain ⟨e_uses_sign, F0_uses_sign⟩ := c.def_ 19 (d := dd_uses_sign) rfl
  have C_uses_sign : Cal K mg "uses_sign" s_uses_sign P_uses_sign _ e_uses_sign := ⟨F0_uses_sign, He.glo_ok X G (c.fact 19 (f := .glo "uses_sign") rfl), FunD.bindsN (ps := P_uses_sign) F0_uses_sign fun _ _ _ _ _ _ us hl => match us, hl with | [_, _, _], _ => rfl⟩
  obtain ⟨e_kind_told, F0_kind_told⟩ := c.def_ 20 (d := dd_kind_told) rfl
  have C_kind_told : Cal K mg "kind_told" s_kind_told P_kind_told _ e_kind_told := ⟨F0_kind_told, He.glo_ok X G (c.fact 20 (f := .glo "kind_told") rfl), FunD.bindsN (ps := P_kind_told) F0_kind_told fun _ _ _ _ _ _ us hl => match us, hl with | [_, _, _], _ => rfl⟩
  obtain ⟨e_is_right, F0_is_right⟩ := c.def_ 21 (d := dd_is_right) rfl
  have C_is_right : Cal K mg "is_right" s_is_right P_is_right _ e_is_right := ⟨F0_is_right, He.glo_ok X G (c.fact 21 (f := .glo "is_right") rfl), FunD.bindsN (ps := P_is_right) F0_is_right fun _ _ _ _ _ _ us hl => match us, hl with | [_, _, _, _], _ => rfl⟩
  obtain ⟨e_parts_due, F0_parts_due⟩ := c.def_ 22 (d := dd_parts_due) rfl
  have C_parts_due : Cal K mg "parts_due" s_parts_due P_parts_due _ e_parts_due := ⟨F0_parts_due, He.glo_ok X G (c.fact 22 (f := .glo "parts_due") rfl), FunD.bindsN (ps := P_parts_due) F0_parts_due fun _ _ _ _ _ _ us hl => match us, hl with | [_, _, _, _], _ => rfl⟩
  obtain ⟨e_below, F0_below⟩ := c.def_ 23 (d := dd_below) rfl
  have C_below : Cal K mg "below" s_below P_below _ e_below := ⟨F0_below, He.glo_ok X G (c.fact 23 (f := .glo "below") rfl), FunD.bindsN (ps := P_below) F0_below fun _ _ _ _ _ _ us hl => match us, hl with | [_, _], _ => rfl⟩
  obtain ⟨e_wrong_path, F0_wrong_path⟩ := c.def_ 24 (d := dd_wrong_path) rfl
  have C_wrong_path : Cal K mg "wrong_path" s_wrong_path P_wrong_path _ e_wrong_path := ⟨F0_wrong_path, He.glo_ok X G (c.fact 24 (f := .glo "wrong_path") rfl), FunD.bindsN (ps := P_wrong_path) F0_wrong_path fun _ _ _ _ _ _ us hl => match us, hl with | [_, _, _, _], _ => rfl⟩
  obtain ⟨e_left_side, F0_left_side⟩ := c.def_ 25 (d := dd_left_side) rfl
  have C_left_side : Cal K mg "left_side" s_left_side P_left_side _ e_left_side := ⟨F0_left_side, He.glo_ok X G (c.fact 25 (f := .glo "left_side") rfl), FunD.bindsN (ps := P_left_side) F0_left_side fun _ _ _ _ _ _ us hl => match us, hl with | [_, _, _], _ => rfl⟩
  obtain ⟨e_are_among, F0_are_among⟩ := c.def_ 26 (d := dd_are_among) rfl
  have C_are_among : Cal K mg "are_among" s_are_among P_are_among _ e_are_among := ⟨F0_are_among, He.glo_ok X G (c.fact 26 (f := .glo "are_among") rfl), FunD.bindsN (ps := P_are_among) F0_are_among fun _ _ _ _ _ _ us hl => match us, hl with | [_, _], _ => rfl⟩
  obtain ⟨e_kinds_there, F0_kinds_there⟩ := c.def_ 27 (d := dd_kinds_there) rfl
  have C_kinds_there : Cal K mg "kinds_there" s_kinds_there P_kinds_there _ e_kinds_there := ⟨F0_kinds_there, He.glo_ok X G (c.fact 27 (f := .glo "kinds_there") rfl), FunD.bindsN (ps := P_kinds_there) F0_kinds_there fun _ _ _ _ _ _ us hl => match us, hl with | [_], _ => rfl⟩
  obtain ⟨e_repeated_kind, F0_repeated_kind⟩ := c.def_ 28 (d := dd_repeated_kind) rfl
  have C_repeated_kind : Cal K mg "repeated_kind" s_repeated_kind P_repeated_kind _ e_repeated_kind := ⟨F0_repeated_kind, He.glo_ok X G (c.fact 28 (f := .glo "repeated_kind") rfl), FunD.bindsN (ps := P_repeated_kind) F0_repeated_kind fun _ _ _ _ _ _ us hl => match us, hl with | [_], _ => rfl⟩
  obtain ⟨e_wrong_maker, F0_wrong_maker⟩ := c.def_ 29 (d := dd_wrong_maker) rfl
  have C_wrong_maker : Cal K mg "wrong_maker" s_wrong_maker P_wrong_maker _ e_wrong_maker := ⟨F0_wrong_maker, He.glo_ok X G (c.fact 29 (f := .glo "wrong_maker") rfl), FunD.bindsN (ps := P_wrong_maker) F0_wrong_maker fun _ _ _ _ _ _ us hl => match us, hl with | [_], _ => rfl⟩
  obtain ⟨e_kinds_with_things, F0_kinds_with_things⟩ := c.def_ 30 (d := dd_kinds_with_things) rfl
  have C_kinds_with_things : Cal K mg "kinds_with_things" s_kinds_with_things P_kinds_with_things _ e_kinds_with_things := ⟨F0_kinds_with_things, He.glo_ok X G (c.fact 30 (f := .glo "kinds_with_things") rfl), FunD.bindsN (ps := P_kinds_with_things) F0_kinds_with_things fun _ _ _ _ _ _ us hl => match us, hl with | [_], _ => rfl⟩
  obtain ⟨e_empty_kind, F0_empty_kind⟩ := c.def_ 31 (d := dd_empty_kind) rfl
  have C_empty_kind : Cal K mg "empty_kind" s_empty_kind P_empty_kind _ e_empty_kind := ⟨F0_empty_kind, He.glo_ok X G (c.fact 31 (f := .glo "empty_kind") rfl), FunD.bindsN (ps := P_empty_kind) F0_empty_kind fun _ _ _ _ _ _ us hl => match us, hl with | [_], _ => rfl⟩
  obtain ⟨e_wrong_function, F0_wrong_function⟩ := c.def_ 32 (d := dd_wrong_function) rfl
  have C_wrong_function : Cal K mg "wrong_function" s_wrong_function P_wrong_function _ e_wrong_function := ⟨F0_wrong_function, He.glo_ok X G (c.fact 32 (f := .glo "wrong_function") rfl), FunD.bindsN (ps := P_wrong_function) F0_wrong_function fun _ _ _ _ _ _ us hl => match us, hl with | [_, _], _ => rfl⟩
  obtain ⟨e_has_overused_name, F0_has_overused_name⟩ := c.def_ 33 (d := dd_has_overused_name) rfl
  have C_has_overused_name : Cal K mg "has_overused_name" s_has_overused_name P_has_overused_name _ e_has_overused_name := ⟨F0_has_overused_name, He.glo_ok X G (c.fact 33 (f := .glo "has_overused_name") rfl), FunD.bindsN (ps := P_has_overused_name) F0_has_overused_name fun _ _ _ _ _ _ us hl => match us, hl with | [_], _ => rfl⟩
  obtain ⟨e_wrong_side, F0_wrong_side⟩ := c.def_ 34 (d := dd_wrong_side) rfl
  have C_wrong_side : Cal K mg "wrong_side" s_wrong_side P_wrong_side _ e_wrong_side := ⟨F0_wrong_side, He.glo_ok X G (c.fact 34 (f := .glo "wrong_side") rfl), FunD.bindsN (ps := P_wrong_side) F0_wrong_side fun _ _ _ _ _ _ us hl => match us, hl with | [_, _, _, _, _], _ => rfl⟩
  obtain ⟨e_wrong_rule, F0_wrong_rule⟩ := c.def_ 35 (d := dd_wrong_rule) rfl
  have C_wrong_rule : Cal K mg "wrong_rule" s_wrong_rule P_wrong_rule _ e_wrong_rule := ⟨F0_wrong_rule, He.glo_ok X G (c.fact 35 (f := .glo "wrong_rule") rfl), FunD.bindsN (ps := P_wrong_rule) F0_wrong_rule fun _ _ _ _ _ _ us hl => match us, hl with | [_, _], _ => rfl⟩
  obtain ⟨e_first_wrong_place, F0_first_wrong_place⟩ := c.def_ 36 (d := dd_first_wrong_place) rfl
  have C_first_wrong_place : Cal K mg "first_wrong_place" s_first_wrong_place P_first_wrong_place _ e_first_wrong_place := ⟨F0_first_wrong_place, He.glo_ok X G (c.fact 36 (f := .glo "first_wrong_place") rfl), FunD.bindsN (ps := P_first_wrong_place) F0_first_wrong_place fun _ _ _ _ _ _ us hl => match us, hl with | [_, _], _ => rfl⟩
  obtain ⟨e_same, F0_same⟩ := c.def_ 37 (d := dd_same) rfl
  have C_same : Cal K mg "_law_same" s_same P_same _ e_same := ⟨F0_same, He.glo_ok X G (c.fact 37 (f := .glo "_law_same") rfl), FunD.bindsN (ps := P_same) F0_same fun _ _ _ _ _ _ us hl => match us, hl with | [_, _], _ => rfl⟩
  obtain ⟨e_l_is_word, F0_l_is_word⟩ := c.def_ 38 (d := dd_l_is_word) rfl
  have C_l_is_word : Cal K mg "_law_is_word" s_l_is_word P_l_is_word _ e_l_is_word := ⟨F0_l_is_word, He.glo_ok X G (c.fact 38 (f := .glo "_law_is_word") rfl), FunD.bindsN (ps := P_l_is_word) F0_l_is_word fun _ _ _ _ _ _ us hl => match us, hl with | [_], _ => rfl⟩
  obtain ⟨e_is_new, F0_is_new⟩ := c.def_ 39 (d := dd_is_new) rfl
  have C_is_new : Cal K mg "_law_is_new" s_is_new P_is_new _ e_is_new := ⟨F0_is_new, He.glo_ok X G (c.fact 39 (f := .glo "_law_is_new") rfl), FunD.bindsN (ps := P_is_new) F0_is_new fun _ _ _ _ _ _ us hl => match us, hl with | [_], _ => rfl⟩
  obtain ⟨e_is, F0_is⟩ := c.def_ 40 (d := dd_is) rfl
  have C_is : Cal K mg "_law_is" s_is P_is _ e_is := ⟨F0_is, He.glo_ok X G (c.fact 40 (f := .glo "_law_is") rfl), FunD.bindsN (ps := P_is) F0_is fun _ _ _ _ _ _ us hl => match us, hl with | [_, _], _ => rfl⟩
  obtain ⟨e_size, F0_size⟩ := c.def_ 41 (d := dd_size) rfl
  have C_size : Cal K mg "_law_size" s_size P_size _ e_size := ⟨F0_size, He.glo_ok X G (c.fact 41 (f := .glo "_law_size") rfl), FunD.bindsN (ps := P_size) F0_size fun _ _ _ _ _ _ us hl => match us, hl with | [_], _ => rfl⟩
  obtain ⟨e_has_new, F0_has_new⟩ := c.def_ 42 (d := dd_has_new) rfl
  have C_has_new : Cal K mg "_law_has_new" s_has_new P_has_new _ e_has_new := ⟨F0_has_new, He.glo_ok X G (c.fact 42 (f := .glo "_law_has_new") rfl), FunD.bindsN (ps := P_has_new) F0_has_new fun _ _ _ _ _ _ us hl => match us, hl with | [_], _ => rfl⟩
  obtain ⟨e_is_there, F0_is_there⟩ := c.def_ 43 (d := dd_is_there) rfl
  have C_is_there : Cal K mg "_law_is_there" s_is_there P_is_there _ e_is_there := ⟨F0_is_there, He.glo_ok X G (c.fact 43 (f := .glo "_law_is_there") rfl), FunD.bindsN (ps := P_is_there) F0_is_there fun _ _ _ _ _ _ us hl => match us, hl with | [_, _, _], _ => rfl⟩
  obtain ⟨e_l_is_row, F0_l_is_row⟩ := c.def_ 44 (d := dd_l_is_row) rfl
  have C_l_is_row : Cal K mg "_law_is_row" s_l_is_row P_l_is_row _ e_l_is_row := ⟨F0_l_is_row, He.glo_ok X G (c.fact 44 (f := .glo "_law_is_row") rfl), FunD.bindsN (ps := P_l_is_row) F0_l_is_row fun _ _ _ _ _ _ us hl => match us, hl with | [_, _, _], _ => rfl⟩
  obtain ⟨e_is_kind, F0_is_kind⟩ := c.def_ 45 (d := dd_is_kind) rfl
  have C_is_kind : Cal K mg "_law_is_kind" s_is_kind P_is_kind _ e_is_kind := ⟨F0_is_kind, He.glo_ok X G (c.fact 45 (f := .glo "_law_is_kind") rfl), FunD.bindsN (ps := P_is_kind) F0_is_kind fun _ _ _ _ _ _ us hl => match us, hl with | [_], _ => rfl⟩
  obtain ⟨e_are_kinds, F0_are_kinds⟩ := c.def_ 46 (d := dd_are_kinds) rfl
  have C_are_kinds : Cal K mg "_law_are_kinds" s_are_kinds P_are_kinds _ e_are_kinds := ⟨F0_are_kinds, He.glo_ok X G (c.fact 46 (f := .glo "_law_are_kinds") rfl), FunD.bindsN (ps := P_are_kinds) F0_are_kinds fun _ _ _ _ _ _ us hl => match us, hl with | [_], _ => rfl⟩
  obtain ⟨e_kind_formed, F0_kind_formed⟩ := c.def_ 47 (d := dd_kind_formed) rfl
  have C_kind_formed : Cal K mg "_law_kind_formed" s_kind_formed P_kind_formed _ e_kind_formed := ⟨F0_kind_formed, He.glo_ok X G (c.fact 47 (f := .glo "_law_kind_formed") rfl), FunD.bindsN (ps := P_kind_formed) F0_kind_formed fun _ _ _ _ _ _ us hl => match us, hl with | [_], _ => rfl⟩
  obtain ⟨e_function_formed, F0_function_formed⟩ := c.def_ 48 (d := dd_function_formed) rfl
  have C_function_formed : Cal K mg "_law_function_formed" s_function_formed P_function_formed _ e_function_formed := ⟨F0_function_formed, He.glo_ok X G (c.fact 48 (f := .glo "_law_function_formed") rfl), FunD.bindsN (ps := P_function_formed) F0_function_formed fun _ _ _ _ _ _ us hl => match us, hl with | [_], _ => rfl⟩
  obtain ⟨e_formed, F0_formed⟩ := c.def_ 49 (d := dd_formed) rfl
  have C_formed : Cal K mg "_law_formed" s_formed P_formed _ e_formed := ⟨F0_formed, He.glo_ok X G (c.fact 49 (f := .glo "_law_formed") rfl), FunD.bindsN (ps := P_formed) F0_formed fun _ _ _ _ _ _ us hl => match us, hl with | [_, _], _ => rfl⟩
  obtain ⟨e_maker, F0_maker⟩ := c.def_ 50 (d := dd_maker) rfl
  have C_maker : Cal K mg "_law_maker" s_maker P_maker _ e_maker := ⟨F0_maker, He.glo_ok X G (c.fact 50 (f := .glo "_law_maker") rfl), FunD.bindsN (ps := P_maker) F0_maker fun _ _ _ _ _ _ us hl => match us, hl with | [_, _], _ => rfl⟩
  obtain ⟨e_head, F0_head⟩ := c.def_ 51 (d := dd_head) rfl
  have C_head : Cal K mg "_law_head" s_head P_head _ e_head := ⟨F0_head, He.glo_ok X G (c.fact 51 (f := .glo "_law_head") rfl), FunD.bindsN (ps := P_head) F0_head fun _ _ _ _ _ _ us hl => match us, hl with | [_, _], _ => rfl⟩
  obtain ⟨e_told_by, F0_told_by⟩ := c.def_ 52 (d := dd_told_by) rfl
  have C_told_by : Cal K mg "_law_told_by" s_told_by P_told_by _ e_told_by := ⟨F0_told_by, He.glo_ok X G (c.fact 52 (f := .glo "_law_told_by") rfl), FunD.bindsN (ps := P_told_by) F0_told_by fun _ _ _ _ _ _ us hl => match us, hl with | [_, _, _, _], _ => rfl⟩
  obtain ⟨e_wrong, F0_wrong⟩ := c.def_ 53 (d := dd_wrong) rfl
  have C_wrong : Cal K mg "_law_wrong" s_wrong P_wrong _ e_wrong := ⟨F0_wrong, He.glo_ok X G (c.fact 53 (f := .glo "_law_wrong") rfl), FunD.bindsN (ps := P_wrong) F0_wrong fun _ _ _ _ _ _ us hl => match us, hl with | [_, _, _, _, _], _ => rfl⟩
  obtain ⟨e_wrong_left, F0_wrong_left⟩ := c.def_ 54 (d := dd_wrong_left) rfl
  have C_wrong_left : Cal K mg "_law_wrong_left" s_wrong_left P_wrong_left _ e_wrong_left := ⟨F0_wrong_left, He.glo_ok X G (c.fact 54 (f := .glo "_law_wrong_left") rfl), FunD.bindsN (ps := P_wrong_left) F0_wrong_left fun _ _ _ _ _ _ us hl => match us, hl with | [_, _, _, _, _], _ => rfl⟩
  obtain ⟨e_counted, F0_counted⟩ := c.def_ 55 (d := dd_counted) rfl
  have C_counted : Cal K mg "_law_counted" s_counted P_counted _ e_counted := ⟨F0_counted, He.glo_ok X G (c.fact 55 (f := .glo "_law_counted") rfl), FunD.bindsN (ps := P_counted) F0_counted fun _ _ _ _ _ _ us hl => match us, hl with | [_, _], _ => rfl⟩
  obtain ⟨e_l_wrong_rule, F0_l_wrong_rule⟩ := c.def_ 56 (d := dd_l_wrong_rule) rfl
  have C_l_wrong_rule : Cal K mg "_law_wrong_rule" s_l_wrong_rule P_l_wrong_rule _ e_l_wrong_rule := ⟨F0_l_wrong_rule, He.glo_ok X G (c.fact 56 (f := .glo "_law_wrong_rule") rfl), FunD.bindsN (ps := P_l_wrong_rule) F0_l_wrong_rule fun _ _ _ _ _ _ us hl => match us, hl with | [_, _, _], _ => rfl⟩
  obtain ⟨e_wrong_kinds, F0_wrong_kinds⟩ := c.def_ 57 (d := dd_wrong_kinds) rfl
  have C_wrong_kinds : Cal K mg "_law_wrong_kinds" s_wrong_kinds P_wrong_kinds _ e_wrong_kinds := ⟨F0_wrong_kinds, He.glo_ok X G (c.fact 57 (f := .glo "_law_wrong_kinds") rfl), FunD.bindsN (ps := P_wrong_kinds) F0_wrong_kinds fun _ _ _ _ _ _ us hl => match us, hl with | [_], _ => rfl⟩
  obtain ⟨e_first, F0_first⟩ := c.def_ 58 (d := dd_first) rfl
  have C_first : Cal K mg "_law_first" s_first P_first _ e_first := ⟨F0_first, He.glo_ok X G (c.fact 58 (f := .glo "_law_first") rfl), FunD.bindsN (ps := P_first) F0_first fun _ _ _ _ _ _ us hl => match us, hl with | [_, _], _ => rfl⟩
  obtain ⟨e_drawn_kinds, F0_drawn_kinds⟩ := c.def_ 59 (d := dd_drawn_kinds) rfl
  have C_drawn_kinds : Cal K mg "_law_drawn_kinds" s_drawn_kinds P_drawn_kinds _ e_drawn_kinds := ⟨F0_drawn_kinds, He.glo_ok X G (c.fact 59 (f := .glo "_law_drawn_kinds") rfl), FunD.bindsN (ps := P_drawn_kinds) F0_drawn_kinds fun _ _ _ _ _ _ us hl => match us, hl with | [_], _ => rfl⟩
  obtain ⟨e_function, F0_function⟩ := c.def_ 60 (d := dd_function) rfl
  have C_function : Cal K mg "_law_function" s_function P_function _ e_function := ⟨F0_function, He.glo_ok X G (c.fact 60 (f := .glo "_law_function") rfl), FunD.bindsN (ps := P_function) F0_function fun _ _ _ _ _ _ us hl => match us, hl with | [_], _ => rfl⟩
  obtain ⟨e_next, F0_next⟩ := c.def_ 61 (d := dd_next) rfl
  have C_next : Cal K mg "_law_next" s_next P_next _ e_next := ⟨F0_next, He.glo_ok X G (c.fact 61 (f := .glo "_law_next") rfl), FunD.bindsN (ps := P_next) F0_next fun _ _ _ _ _ _ us hl => match us, hl with | [_], _ => rfl⟩
  obtain ⟨e_made, F0_made⟩ := c.def_ 62 (d := dd_made) rfl
  have C_made : Cal K mg "_law_made" s_made P_made _ e_made := ⟨F0_made, He.glo_ok X G (c.fact 62 (f := .glo "_law_made") rfl), FunD.bindsN (ps := P_made) F0_made fun _ _ _ _ _ _ us hl => match us, hl with | [_, _], _ => rfl⟩
  obtain ⟨e_deck, F0_deck⟩ := c.def_ 63 (d := dd_deck) rfl
  have C_deck : Cal K mg "_law_deck" s_deck P_deck _ e_deck := ⟨F0_deck, He.glo_ok X G (c.fact 63 (f := .glo "_law_deck") rfl), FunD.bindsN (ps := P_deck) F0_deck fun _ _ _ _ _ _ us hl => match us, hl with | [_], _ => rfl⟩
  obtain ⟨e_law, F0_law⟩ := c.def_ 64 (d := dd_law) rfl
  have C_law : Cal K mg "law" s_law P_law _ e_law := ⟨F0_law, He.glo_ok X G (c.fact 64 (f := .glo "law") rfl), FunD.bindsN (ps := P_law) F0_law fun _ _ _ _ _ _ us hl => match us, hl with | [_], _ => rfl⟩
  obtain ⟨e_refused, F0_refused⟩ := c.def_ 65 (d := dd_refused) rfl
  have C_refused : Cal K mg "_law_refused" s_refused P_refused _ e_refused := ⟨F0_refused, He.glo_ok X G (c.fact 65 (f := .glo "_law_refused") rfl), FunD.bindsN (ps := P_refused) F0_refused fun _ _ _ _ _ _ us hl => match us, hl with | [_], _ => rfl⟩
  obtain ⟨e_pri, F0_pri⟩ := c.def_ 66 (d := dd_pri) rfl
  obtain ⟨e_bpi, F0_bpi⟩ := c.def_ 67 (d := dd_bpi) rfl
  have T : Bt mg := ⟨He.free_ok X G (c.fact 66 (f := .free "len") rfl), He.free_ok X G (c.fact 67 (f := .free "abs") rfl), He.free_ok X G (c.fact 68 (f := .free "range") rfl), He.free_ok X G (c.fact 69 (f := .free "zip") rfl), He.free_ok X G (c.fact 70 (f := .free "isinstance") rfl), He.free_ok X G (c.fact 71 (f := .free "all") rfl), He.free_ok X G (c.fact 72 (f := .free "tuple") rfl), He.free_ok X G (c.fact 73 (f := .free "str") rfl), He.free_ok X G (c.fact 74 (f := .free "int") rfl), He.free_ok X G (c.fact 75 (f := .free "bool") rfl), He.free_ok X G (c.fact 76 (f := .free "enumerate") rfl), He.free_ok X G (c.fact 77 (f := .free "list") rfl), He.free_ok X G (c.fact 78 (f := .free "dict") rfl), He.free_ok X G (c.fact 79 (f := .free "any") rfl), He.free_ok X G (c.fact 80 (f := .free "sum") rfl), He.free_ok X G (c.fact 81 (f := .free "max") rfl), He.free_ok X G (c.fact 82 (f := .free "min") rfl)⟩
  obtain ⟨x_KEPT_WORDS, cx⟩ := Bool.and_eq_true_iff.mp cx
  obtain ⟨x_MOST_LETTERS, cx⟩ := Bool.and_eq_true_iff.mp cx
  obtain ⟨x_LETTERS, cx⟩ := Bool.and_eq_true_iff.mp cx
  obtain ⟨x_MOST_FIGURES, cx⟩ := Bool.and_eq_true_iff.mp cx
  obtain ⟨x_FIGURES, cx⟩ := Bool.and_eq_true_iff.mp cx
  obtain ⟨x_MOST_PARTS, cx⟩ := Bool.and_eq_true_iff.mp cx
  obtain ⟨x_MOST_NODES, cx⟩ := Bool.and_eq_true_iff.mp cx
  obtain ⟨x_TRUTH, cx⟩ := Bool.and_eq_true_iff.mp cx
  obtain ⟨x_MOST_MAKERS, cx⟩ := Bool.and_eq_true_iff.mp cx
  obtain ⟨x_SAYING_DEPTH, cx⟩ := Bool.and_eq_true_iff.mp cx
  obtain ⟨x_PATTERN_DEPTH, cx⟩ := Bool.and_eq_true_iff.mp cx
  obtain ⟨x_MOST_RULES, cx⟩ := Bool.and_eq_true_iff.mp cx
  obtain ⟨x_MOST_FUNCTIONS, cx⟩ := Bool.and_eq_true_iff.mp cx
  obtain ⟨x_MOST_KINDS, cx⟩ := Bool.and_eq_true_iff.mp cx
  obtain ⟨x_TRUTH_MAKERS, cx⟩ := Bool.and_eq_true_iff.mp cx
  obtain ⟨x_MOST_USES, cx⟩ := Bool.and_eq_true_iff.mp cx
  obtain ⟨z1, cx⟩ := Bool.and_eq_true_iff.mp cx
  obtain ⟨z2, cx⟩ := Bool.and_eq_true_iff.mp cx
  obtain ⟨z3, cx⟩ := Bool.and_eq_true_iff.mp cx
  obtain ⟨z4, cx⟩ := Bool.and_eq_true_iff.mp cx
  obtain ⟨z5, z6⟩ := Bool.and_eq_true_iff.mp cx
  have hg : ∀ x ∈ erN, mg x = some (.ref (He.ga K x)) := by
    intro x hx
    simp only [erN, List.mem_cons, List.not_mem_nil, or_false] at hx
    rcases hx with rfl | rfl | rfl | rfl | rfl | rfl | rfl | rfl | rfl | rfl | rfl
    · exact He.glo_ok X G (c.fact 83 (f := .glo "BadProgram") rfl)
    · exact He.glo_ok X G (c.fact 84 (f := .glo "BadNames") rfl)
    · exact He.glo_ok X G (c.fact 85 (f := .glo "BadSaying") rfl)
    · exact He.glo_ok X G (c.fact 86 (f := .glo "NoTable") rfl)
    · exact He.glo_ok X G (c.fact 87 (f := .glo "TooWide") rfl)
    · exact He.glo_ok X G (c.fact 88 (f := .glo "BadTurns") rfl)
    · exact He.glo_ok X G (c.fact 89 (f := .glo "NoMore") rfl)
    · exact He.glo_ok X G (c.fact 90 (f := .glo "Cut") rfl)
    · exact He.glo_ok X G (c.fact 91 (f := .glo "NoText") rfl)
    · exact He.glo_ok X G (c.fact 92 (f := .glo "NoRow") rfl)
    · exact He.glo_ok X G (c.fact 93 (f := .glo "FillError") rfl)
  have E : Ers K mg := ⟨hg, He.free_ok X G (c.fact 94 (f := .free "ValueError") rfl), excB_ok z1, oexB_ok z2, xfB_ok z3, He.noat_ok (c.fact 100 (f := .noat "BadProgram" "place") rfl), fun x hx => of_decide_eq_true (List.all_eq_true.mp z4 x hx), of_decide_eq_true z5, He.exm_ok (c.fact 102 (f := .exm "BadProgram" "FillError" true) rfl)⟩
  have Pk : PrK K mg _ := ⟨He.glo_ok X G (c.fact 95 (f := .glo "Program") rfl), He.mkr_ok (c.fact 96 (f := .mkr "Program") rfl), He.cls_ok (c.fact 97 (f := .cls "Program") rfl), He.noat_ok (c.fact 98 (f := .noat "Program" "kinds") rfl), He.noat_ok (c.fact 99 (f := .noat "Program" "functions") rfl)⟩
  have bP : Binds K e_pri P_pri [] := FunD.bindsN (ps := P_pri) F0_pri fun _ _ _ _ _ _ us hl => match us, hl with | [_, _, _], _ => rfl
  have bB : Binds K e_bpi P_bpi [] := FunD.bindsN (ps := P_bpi) F0_bpi fun _ _ _ _ _ _ us hl => match us, hl with | [_, _], _ => rfl
  have e := hfa.symm.trans C_law.m
  cases e
  have b := FunD.bindsA (ps := ["_law_script"]) F0_law fun _ _ _ _ _ _ us hl => match us, hl with | [_], _ => rfl
  refine ⟨e_law, fun s v => b s [v] rfl, fun base _ _ => ?_⟩
  exact ok_law T E Pk F0_pri F0_bpi (He.meth_ok (c.fact 101 (f := .meth "BadProgram" "__init__") rfl)).at_ (of_decide_eq_true z6) bB bP (gB_ok X G x_KEPT_WORDS) (gB_ok X G x_MOST_LETTERS) (gB_ok X G x_LETTERS) (gB_ok X G x_MOST_FIGURES) (gB_ok X G x_FIGURES) (gB_ok X G x_MOST_PARTS) (gB_ok X G x_MOST_NODES) (gB_ok X G x_TRUTH) (gB_ok X G x_MOST_MAKERS) (gB_ok X G x_SAYING_DEPTH) (gB_ok X G x_PATTERN_DEPTH) (gB_ok X G x_MOST_RULES) (gB_ok X G x_MOST_FUNCTIONS) (gB_ok X G x_MOST_KINDS) (gB_ok X G x_TRUTH_MAKERS) (gB_ok X G x_MOST_USES) C_is_text_of C_is_word C_is_new_name C_is_node C_parts_of C_nodes_of C_names_of C_is_row C_is_sized C_is_written C_is_kind_name C_are_kind_names C_is_maker_form C_is_kind_form C_is_rule_form C_is_function_form C_is_program_form C_signs_of C_sign_of C_uses_sign C_kind_told C_is_right C_parts_due C_below C_wrong_path C_left_side C_are_among C_kinds_there C_repeated_kind C_wrong_maker C_kinds_with_things C_empty_kind C_wrong_function C_has_overused_name C_wrong_side C_wrong_rule C_first_wrong_place C_same C_l_is_word C_is_new C_is C_size C_has_new C_is_there C_l_is_row C_is_kind C_are_kinds C_kind_formed C_function_formed C_formed C_maker C_head C_told_by C_wrong C_wrong_left C_counted C_l_wrong_rule C_wrong_kinds C_first C_drawn_kinds C_function C_next C_made C_deck C_law C_refused
end Sh
open PySem PySem.W PySem.Calls PyProof.Rows
set_option maxRecDepth 100000 in
set_option maxHeartbeats 0 in
theorem PySem.Challenge.cw_needfill_k11_kinds_of_nothing_holds : PySem.Challenge.rw_needfill_k11_kinds_of_nothing.Holds := by
  w_on; o_law
  refine HandSHeadRun.head_any (r := OpenLaw.row PySem.Challenge.rw_needfill_k11_kinds_of_nothing) (q := view (OpenLaw.row PySem.Challenge.rw_needfill_k11_kinds_of_nothing).prog [107]) (H := Sh.hk) (ob := Sh.ob) (M := 6000) (loose := Sh.loose) (d := HandSHeadRun.topDef (OpenLaw.row PySem.Challenge.rw_needfill_k11_kinds_of_nothing).prog 107) (kwd := []) Sh.ob_eq
    (by kernel_rfl) (fun s => by kernel_rfl) Sh.run (by kernel_rfl) (by kernel_rfl) (by kernel_rfl) (by rfl) (by first | assumption | decide +kernel) (by decide +kernel) ⟨rfl, rfl, rfl, rfl, rfl, by decide +kernel⟩ ?hw ?hc
  case hw => w_witness2
  case hc =>
    refine L2.walk_ofE (l := PySem.Challenge.rw_needfill_k11_kinds_of_nothing) (n := 63) (k := 14) (x := "_law_script") (CX := L2.CX0) rfl (by decide) (by kernel_rfl) ⟨rfl, by decide, by decide⟩ ?F (fun _ _ _ _ z => z)
    intro w mg fa h Y G hmg0
    obtain ⟨K, KX, c, cx⟩ := Y
    have hmg : mg ("law" : PySem.Str) = some (.ref fa) := by
      have e : (HandSHeadRun.topDef (OpenLaw.row PySem.Challenge.rw_needfill_k11_kinds_of_nothing).prog 107).name = ("law" : PySem.Str) := by kernel_rfl
      rw [← e]
      exact hmg0
    obtain ⟨fd, hb, hF⟩ := Sh.facts (P := (PySem.Challenge.rw_needfill_k11_kinds_of_nothing).prog) (w := w) KX G hmg c cx
    exact ⟨K, fd, Sh.spLaw K, KX, hb, fun H a ns hl _ hS => ⟨a, ns, rfl, hS, hl, fun _ => rfl⟩, hF⟩


