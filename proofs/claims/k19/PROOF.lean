import PyProof.Rows.All
import Wide.All
import OpenK.AllK
import Wide.FinOn
import HandS.ForMost
import HandS.Wide
import HandS.IsInst
import HandS.Zip
import HandS.Walk
import HandS.Conv
import HandS.Star
import HandS.DictComp
import HandS.Style
import HandS.Flow
import HandS.TupAny
import HandS.ListItems
import HandS.Defaults
import KE.KStateDown
import Lean
import HandS.More
import HandS.WordsExc
import HandS.Head0
import HandS.Head1
import HandS.Head2
import HandS.HeadEnd
import HandS.HeadHook1
import HandS.HeadHook2
import HandS.Text
import KE.KxIndex
import KE.GoesEnum
import KE.KDictZip
import PySem.Challenge.RW_needfill_k19_verdicts
set_option Elab.async false
set_option linter.all false
set_option maxRecDepth 100000
namespace Nf
open PySem L2

/-! ### heaps: all that was tracked stays, but for some addresses -/
def Keep (D : List Addr) (H H' : Hp) : Prop := ∀ a o, H a = some o → a ∉ D → H' a = some o
theorem Keep.refl (D : List Addr) (H : Hp) : Keep D H H := fun _ _ h _ => h
theorem Keep.trans {D : List Addr} {H H1 H2 : Hp} (a : Keep D H H1) (b : Keep D H1 H2) : Keep D H H2 := fun c o h n => b c o (a c o h n) n
theorem Keep.of_same {D : List Addr} {H H' : Hp} (s : Same H H') : Keep D H H' := fun a o h _ => s a o h
theorem Keep.new {D : List Addr} {H H' : Hp} {p : Addr} {o : HO} (k : Keep D H H') (h : H' p = none) : Keep D H (upd H' p o) := fun a u e n => by
  rw [upd_ne (ne_of_none (k a u e n) h)]; exact k a u e n
theorem Keep.mut {D : List Addr} {H H' : Hp} {p : Addr} {o : HO} (k : Keep D H H') (h : p ∈ D) : Keep D H (upd H' p o) := fun a u e n => by
  have : a ≠ p := fun z => n (z ▸ h)
  rw [upd_ne this]; exact k a u e n
/-- an object that H does not know may change -/
theorem Keep.mutN {D : List Addr} {H H' : Hp} {p : Addr} {o : HO} (k : Keep D H H') (h : H p = none) : Keep D H (upd H' p o) := fun a u e n => by
  rw [upd_ne (ne_of_none e h)]; exact k a u e n
theorem Keep.weak {D E : List Addr} {H H' : Hp} (k : Keep D H H') (s : ∀ a, a ∈ D → a ∈ E) : Keep E H H' := fun a o h n => k a o h fun z => n (s a z)
theorem Keep.same {H H' : Hp} (k : Keep [] H H') : Same H H' := fun a o h => k a o h (by simp)
theorem Keep.free' {D : List Addr} {H H' : Hp} (e : Keep D H H') {l : Addr} (h : H' l = Option.none) (n : l ∉ D) : H l = Option.none := by
  cases q : H l with
  | none => rfl
  | some o =>
    rw [e l o q n] at h
    cases h
theorem same_new {H : Hp} {p : Addr} (h : H p = none) (o : HO) : Same H (upd H p o) := fun b u q => by rw [upd_ne (ne_of_none q h)]; exact q
theorem _root_.L2.Same.new {H H' : Hp} {p : Addr} {o : HO} (k : Same H H') (h : H' p = none) : Same H (upd H' p o) := k.trans (same_new h o)
theorem _root_.L2.Same.mutN {H H' : Hp} {p : Addr} {o : HO} (k : Same H H') (h : H p = none) : Same H (upd H' p o) := fun a u e => by
  rw [upd_ne (ne_of_none e h)]; exact k a u e
theorem _root_.L2.Same.keepN {H H' : Hp} (k : Same H H') : Keep [] H H' := Keep.of_same k

/-- all tuples stay -/
def TupS (H H' : Hp) : Prop := ∀ a xs, H a = some (.tup xs) → H' a = some (.tup xs)
theorem TupS.refl (H : Hp) : TupS H H := fun _ _ h => h
theorem TupS.trans {H H1 H2 : Hp} (a : TupS H H1) (b : TupS H1 H2) : TupS H H2 := fun c o h => b c o (a c o h)
theorem _root_.L2.Same.tups {H H' : Hp} (s : Same H H') : TupS H H' := fun a _ h => s a _ h
/-- no tuple stands at these places -/
def NoTup (D : List Addr) (H : Hp) : Prop := ∀ a ∈ D, ∀ xs, H a ≠ some (.tup xs)
theorem Keep.tups {D : List Addr} {H H' : Hp} (k : Keep D H H') (n : NoTup D H) : TupS H H' := fun a xs h => k a _ h fun m => n a m xs h
theorem TupS.new {H H' : Hp} {p : Addr} {o : HO} (k : TupS H H') (h : H' p = none) : TupS H (upd H' p o) := fun a u e => by
  rw [upd_ne (ne_of_none (k a u e) h)]; exact k a u e
theorem TupS.mutL {H H' : Hp} {p : Addr} {o : HO} {ys : List V} (k : TupS H H') (h : H' p = some (.lst ys)) : TupS H (upd H' p o) := fun a u e => by
  have q := k a u e
  have : a ≠ p := fun z => by rw [z, h] at q; cases q
  rw [upd_ne this]; exact q

/-! ### data of texts, numbers, truths, None and tuples -/
inductive Da where
  | non | bl (b : Bool) | int (i : Int) | str (x : Str) | tup (ds : List Da)
mutual
inductive Is (H : Hp) : V → Da → Prop
  | non : Is H .non .non
  | bl (b : Bool) : Is H (.bl b) (.bl b)
  | int (i : Int) : Is H (.int i) (.int i)
  | str (x : Str) : Is H (.str x) (.str x)
  | tup {a : Addr} {xs : List V} {ds : List Da} : H a = some (.tup xs) → IsA H xs ds → Is H (.ref a) (.tup ds)
inductive IsA (H : Hp) : List V → List Da → Prop
  | nil : IsA H [] []
  | cons {v : V} {vs : List V} {d : Da} {ds : List Da} : Is H v d → IsA H vs ds → IsA H (v :: vs) (d :: ds)
end
mutual
theorem Is.mono {H H' : Hp} (k : TupS H H') : ∀ {v : V} {d : Da}, Is H v d → Is H' v d
  | _, _, .non => .non
  | _, _, .bl b => .bl b
  | _, _, .int i => .int i
  | _, _, .str x => .str x
  | _, _, .tup h q => .tup (k _ _ h) (IsA.mono k q)
theorem IsA.mono {H H' : Hp} (k : TupS H H') : ∀ {v : List V} {d : List Da}, IsA H v d → IsA H' v d
  | _, _, .nil => .nil
  | _, _, .cons h q => .cons (Is.mono k h) (IsA.mono k q)
end
theorem IsA.len {H : Hp} : ∀ {vs : List V} {ds : List Da}, IsA H vs ds → vs.length = ds.length
  | _, _, .nil => rfl
  | _, _, .cons _ q => congrArg (· + 1) (IsA.len q)
theorem IsA.get {H : Hp} : ∀ {vs : List V} {ds : List Da} {i : Nat} {d : Da}, IsA H vs ds → ds[i]? = some d → ∃ v, vs[i]? = some v ∧ Is H v d
  | _, _, _, _, .nil, e => by simp at e
  | _, _, 0, _, .cons h _, e => by simp at e; subst e; exact ⟨_, rfl, h⟩
  | _, _, i + 1, d, .cons _ q, e => by
    obtain ⟨v, a, b⟩ := IsA.get (i := i) (d := d) q (by simpa using e)
    exact ⟨v, by simpa using a, b⟩
theorem IsA.getV {H : Hp} : ∀ {vs : List V} {ds : List Da} {i : Nat} {v : V}, IsA H vs ds → vs[i]? = some v → ∃ d, ds[i]? = some d ∧ Is H v d
  | _, _, _, _, .nil, e => by simp at e
  | _, _, 0, _, .cons h _, e => by simp at e; subst e; exact ⟨_, rfl, h⟩
  | _, _, i + 1, d, .cons _ q, e => by
    obtain ⟨v, a, b⟩ := IsA.getV (i := i) q (by simpa using e)
    exact ⟨v, by simpa using a, b⟩
theorem IsA.app {H : Hp} : ∀ {vs ws : List V} {ds es : List Da}, IsA H vs ds → IsA H ws es → IsA H (vs ++ ws) (ds ++ es)
  | _, _, _, _, .nil, s => s
  | _, _, _, _, .cons h q, s => .cons h (IsA.app q s)
theorem IsA.take {H : Hp} : ∀ {vs : List V} {ds : List Da} (n : Nat), IsA H vs ds → IsA H (vs.take n) (ds.take n)
  | _, _, 0, _ => .nil
  | _, _, _ + 1, .nil => .nil
  | _, _, n + 1, .cons h q => .cons h (IsA.take n q)
theorem IsA.drop {H : Hp} : ∀ {vs : List V} {ds : List Da} (n : Nat), IsA H vs ds → IsA H (vs.drop n) (ds.drop n)
  | _, _, 0, r => r
  | _, _, _ + 1, .nil => .nil
  | _, _, n + 1, .cons _ q => IsA.drop n q
/-- how deep, told by a bound -/
def Da.dep : Nat → Da → Prop
  | 0, _ => False
  | n + 1, .tup ds => ds.length ≤ 100000 ∧ ∀ d ∈ ds, Da.dep n d
  | _ + 1, _ => True
def Da.ty : Da → String
  | .non => "NoneType"
  | .bl _ => "bool"
  | .int _ => "int"
  | .str _ => "str"
  | .tup _ => "tuple"
theorem Is.ty {K : PySem.W.Frag} {H : Hp} {v : V} {d : Da} (h : Is H v d) : TyX K H v (.type d.ty) := by
  cases h with
  | non => exact .base .non
  | bl b => exact .base (.bl b)
  | int i => exact .base (.int i)
  | str x => exact .base (.str x)
  | tup h _ => exact .base (.tup h)
theorem walk_zipT {K : PySem.W.Frag} {a b : Addr} {xs ys : List V} {n : Nat} (hn : n = min xs.length ys.length) : Walk (RZ.ItzT K a b) n (fun H => SqT K H a xs ∧ SqT K H b ys) (YPair (fun i => xs[i]?) (fun i => ys[i]?)) := by
  subst hn
  refine ⟨fun i _ hi q => ?_, fun _ q => ⟨xs, ys, q.1, q.2, by omega⟩, fun i H v H' _ q y => ?_⟩
  · have h1 : i < xs.length := by omega
    have h2 : i < ys.length := by omega
    exact ⟨xs, ys, xs[i], ys[i], q.1, q.2, by simp [h1], by simp [h2]⟩
  · obtain ⟨T, x, z, h1, h2, h3, h4, h5⟩ := y
    exact ⟨T, x, z, h1, h2, h3, h4 xs q.1, h5 ys q.2⟩
theorem fn_never {P : Program} {w : World} {K : PySem.W.Frag} {mg : Str → Option Value} {base : Heap} {CX : CXT} {k : Nat} {f : Addr} {fd : FuncData} {ps : List Str} {sp : Sp} (no : ∀ vs H Q E, ¬ sp vs H Q E) : FnOk P w K mg base CX k f fd ps sp :=
  ⟨fun vs H Q E h => absurd h (no vs H Q E), fun _ _ _ H _ _ vs Q E _ _ _ _ h => absurd h (no vs H Q E)⟩
theorem yes_if {σ : L2.St} {H : Hp} {A B : Hp → Prop} (h : A H) : tYes σ H fun b H3 => if b = true then A H3 else B H3 := by
  show (if true = true then A H else B H)
  rw [if_pos rfl]
  exact h
theorem sz5 {n : Nat} (h : n ≤ 100000) : n ≤ sizeLine := Nat.le_trans h (by decide)
theorem sz5' {n : Nat} (h : n < 100000) : n < sizeLine := Nat.lt_of_lt_of_le h (by decide)
/-! alike -/
mutual
def Da.eq : Da → Da → Bool
  | .non, .non => true
  | .bl a, .bl b => a == b
  | .int i, .int j => decide (i = j)
  | .str x, .str y => decide (x = y)
  | .tup xs, .tup ys => Da.eqA xs ys
  | _, _ => false
def Da.eqA : List Da → List Da → Bool
  | [], [] => true
  | x :: xs, y :: ys => Da.eq x y && Da.eqA xs ys
  | _, _ => false
end
mutual
theorem Da.eq_refl : ∀ d : Da, Da.eq d d = true
  | .non => rfl
  | .bl b => by simp [Da.eq]
  | .int i => by simp [Da.eq]
  | .str x => by simp [Da.eq]
  | .tup ds => by simp only [Da.eq]; exact Da.eqA_refl ds
theorem Da.eqA_refl : ∀ d : List Da, Da.eqA d d = true
  | [] => rfl
  | d :: r => by simp only [Da.eqA, Da.eq_refl d, Da.eqA_refl r, Bool.and_self]
end
theorem Da.eqA_len : ∀ {xs ys : List Da}, xs.length ≠ ys.length → Da.eqA xs ys = false
  | [], [], h => absurd rfl h
  | [], _ :: _, _ => rfl
  | _ :: _, [], _ => rfl
  | x :: xs, y :: ys, h => by
    have := Da.eqA_len (xs := xs) (ys := ys) (fun e => h (by simp [e]))
    simp [Da.eqA, this]
theorem Da.eqA_zip : ∀ {xs ys : List Da}, xs.length = ys.length → Da.eqA xs ys = ((xs.zip ys).map fun p => Da.eq p.1 p.2).all id
  | [], [], _ => rfl
  | x :: xs, y :: ys, h => by
    have := Da.eqA_zip (xs := xs) (ys := ys) (by simpa using h)
    simp [Da.eqA, this]

/-! ### the deck -/
abbrev MM : Int := 2147483629
structure Deck (H : Hp) (d g c : Addr) (n : Nat) : Prop where
  ne1 : d ≠ g
  ne2 : d ≠ c
  ne3 : g ≠ c
  hd : ∃ k : Nat, H d = some (.lst [.ref g, .ref c, .int k]) ∧ k ≤ n
  hg : ∃ ds : List Int, H g = some (.lst (ds.map V.int)) ∧ ∀ x ∈ ds, 0 ≤ x ∧ x < MM
  hc : ∃ cs : List Int, H c = some (.lst (cs.map V.int)) ∧ 0 < cs.length ∧ cs.length ≤ 64 ∧ ∀ x ∈ cs, 0 ≤ x ∧ x < MM
theorem Deck.noTup {H : Hp} {d g c : Addr} {n : Nat} (D : Deck H d g c n) : NoTup [d, g, c] H := fun a m xs e => by
  obtain ⟨k, h1, _⟩ := D.hd
  obtain ⟨ds, h2, _⟩ := D.hg
  obtain ⟨cs, h3, _⟩ := D.hc
  simp only [List.mem_cons, List.not_mem_nil, or_false] at m
  rcases m with rfl | rfl | rfl
  · rw [h1] at e; cases e
  · rw [h2] at e; cases e
  · rw [h3] at e; cases e
theorem Deck.put {H : Hp} {d g c p : Addr} {n : Nat} {o : HO} (D : Deck H d g c n) (h : p ∉ [d, g, c]) : Deck (upd H p o) d g c n := by
  simp only [List.mem_cons, List.not_mem_nil, or_false, not_or] at h
  obtain ⟨a, b, e⟩ := h
  refine ⟨D.ne1, D.ne2, D.ne3, ?_, ?_, ?_⟩
  · rw [upd_ne (Ne.symm a)]; exact D.hd
  · rw [upd_ne (Ne.symm b)]; exact D.hg
  · rw [upd_ne (Ne.symm e)]; exact D.hc
theorem Deck.not_new {H : Hp} {d g c p : Addr} {n : Nat} (D : Deck H d g c n) (h : H p = none) : p ∉ [d, g, c] := by
  obtain ⟨k, h1, _⟩ := D.hd
  obtain ⟨ds, h2, _⟩ := D.hg
  obtain ⟨cs, h3, _⟩ := D.hc
  simp only [List.mem_cons, List.not_mem_nil, or_false, not_or]
  exact ⟨(ne_of_none h1 h).symm, (ne_of_none h2 h).symm, (ne_of_none h3 h).symm⟩
theorem Deck.new {H : Hp} {d g c p : Addr} {n : Nat} {o : HO} (D : Deck H d g c n) (h : H p = none) : Deck (upd H p o) d g c n := D.put (D.not_new h)
theorem Deck.le {H : Hp} {d g c : Addr} {n m : Nat} (D : Deck H d g c n) (h : n ≤ m) : Deck H d g c m := by
  obtain ⟨k, h1, h2⟩ := D.hd
  exact ⟨D.ne1, D.ne2, D.ne3, ⟨k, h1, by omega⟩, D.hg, D.hc⟩
theorem Deck.same {H H' : Hp} {d g c : Addr} {n : Nat} (D : Deck H d g c n) (s : Same H H') : Deck H' d g c n := by
  obtain ⟨k, h1, h2⟩ := D.hd
  obtain ⟨ds, h3, h4⟩ := D.hg
  obtain ⟨cs, h5, h6⟩ := D.hc
  exact ⟨D.ne1, D.ne2, D.ne3, ⟨k, s _ _ h1, h2⟩, ⟨ds, s _ _ h3, h4⟩, ⟨cs, s _ _ h5, h6⟩⟩
theorem mod_range {k m : Int} (h : 0 < m) : 0 ≤ k % m ∧ k % m < m := ⟨Int.emod_nonneg _ (by omega), Int.emod_lt_of_pos _ h⟩
theorem at_int {ns : List Int} {i : Int} (h0 : 0 ≤ i) (h1 : i < ns.length) : ∃ v, atI (ns.map V.int) i = some (.int v) ∧ v ∈ ns := by
  have hk : i.toNat < ns.length := by omega
  refine ⟨ns[i.toNat], at_of (j := i.toNat) (by omega) ?_, List.getElem_mem hk⟩
  rw [List.getElem?_map, List.getElem?_eq_getElem hk]; rfl
theorem at_nat {α : Type} {xs : List α} {f : α → V} {i : Int} (h0 : 0 ≤ i) (h1 : i < xs.length) : ∃ v, atI (xs.map f) i = some (f v) ∧ v ∈ xs ∧ xs[i.toNat]? = some v := by
  have hk : i.toNat < xs.length := by omega
  refine ⟨xs[i.toNat], at_of (j := i.toNat) (by omega) ?_, List.getElem_mem hk, List.getElem?_eq_getElem hk⟩
  rw [List.getElem?_map, List.getElem?_eq_getElem hk]; rfl
theorem atV {xs : List V} {i : Int} (h0 : 0 ≤ i) (h1 : i < xs.length) : ∃ v, atI xs i = some v ∧ xs[i.toNat]? = some v := by
  have hk : i.toNat < xs.length := by omega
  exact ⟨xs[i.toNat], at_of (j := i.toNat) (by omega) (List.getElem?_eq_getElem hk), List.getElem?_eq_getElem hk⟩
end Nf

set_option Elab.async false
set_option linter.all false
set_option maxRecDepth 100000
/-! data, frozen heaps, what a def's slots stand for -/
namespace Sh
open PySem L2 Nf
theorem nmem_of {l : List Nat} {i : Nat} (h : l.contains i = false) : i ∉ l := fun m => by
  rw [List.contains_iff_mem.mpr m] at h; cases h
theorem mem_of {l : List Nat} {i : Nat} (h : l.contains i = true) : i ∈ l := List.contains_iff_mem.mp h
inductive D where
  | non | bl (b : Bool) | int (i : Int) | str (x : Str) | tup (ds : List D) | lst (ds : List D) | dk (ks : List Key) (vs : List D) | ins (C : Addr) (ks : List Str) (vs : List D) | deck
structure Cn where
  K : PySem.W.Frag
  dk : Addr
def Le (R R' : Hp) : Prop := (∀ a u, Rd R a u → Rd R' a u) ∧ ∀ a xs, R a = some (.lst xs) → R' a = some (.lst xs)
theorem Le.refl (R : Hp) : Le R R := ⟨fun _ _ h => h, fun _ _ h => h⟩
theorem _root_.L2.Same.le {R R' : Hp} (s : Same R R') : Le R R' := ⟨fun a u h => by
  rcases h with h | ⟨o, h⟩
  · exact .inl (s _ _ h)
  · exact .inr ⟨o, s _ _ h⟩, fun a xs h => s _ _ h⟩
theorem Le.sqT {K : PySem.W.Frag} {R R' : Hp} (l : Le R R') {a : Addr} {xs : List V} (h : SqT K R a xs) : SqT K R' a xs := h.imp (l.1 a _) id
theorem Le.sqL {K : PySem.W.Frag} {R R' : Hp} (l : Le R R') {a : Addr} {xs : List V} (h : SqL K R a xs) : SqL K R' a xs := h.imp (l.1 a _) id
mutual
inductive Fz (c : Cn) (R : Hp) : V → D → Prop
  | non : Fz c R .non .non
  | bl (b : Bool) : Fz c R (.bl b) (.bl b)
  | int (i : Int) : Fz c R (.int i) (.int i)
  | str (x : Str) : x.length ≤ sizeLine → Fz c R (.str x) (.str x)
  | tup {a : Addr} {xs : List V} {ds : List D} : SqT c.K R a xs → xs.length ≤ sizeLine → FzA c R xs ds → Fz c R (.ref a) (.tup ds)
  | lst {a : Addr} {xs : List V} {ds : List D} : R a = some (.lst xs) → xs.length ≤ sizeLine → FzA c R xs ds → Fz c R (.ref a) (.lst ds)
  | dk {a : Addr} {kvs : List (Key × V)} {ds : List D} : Rd R a (.dK kvs) → kvs.length ≤ sizeLine → FzA c R (kvs.map Prod.snd) ds → Fz c R (.ref a) (.dk (kvs.map Prod.fst) ds)
  | ins {a C dx : Addr} {fs : List (Str × V)} {ds : List D} : Rd R a (.ins C dx fs) → FzA c R (fs.map Prod.snd) ds → Fz c R (.ref a) (.ins C (fs.map Prod.fst) ds)
  | deck : Fz c R (.ref c.dk) .deck
inductive FzA (c : Cn) (R : Hp) : List V → List D → Prop
  | nil : FzA c R [] []
  | cons {v : V} {vs : List V} {d : D} {ds : List D} : Fz c R v d → FzA c R vs ds → FzA c R (v :: vs) (d :: ds)
end
mutual
theorem Fz.mono {c : Cn} {R R' : Hp} (k : Le R R') : ∀ {v : V} {d : D}, Fz c R v d → Fz c R' v d
  | _, _, .non => .non
  | _, _, .bl b => .bl b
  | _, _, .int i => .int i
  | _, _, .str x h => .str x h
  | _, _, .tup h z q => .tup (k.sqT h) z (FzA.mono k q)
  | _, _, .lst h z q => .lst (k.2 _ _ h) z (FzA.mono k q)
  | _, _, .dk h z q => .dk (k.1 _ _ h) z (FzA.mono k q)
  | _, _, .ins h q => .ins (k.1 _ _ h) (FzA.mono k q)
  | _, _, .deck => .deck
theorem FzA.mono {c : Cn} {R R' : Hp} (k : Le R R') : ∀ {v : List V} {d : List D}, FzA c R v d → FzA c R' v d
  | _, _, .nil => .nil
  | _, _, .cons h q => .cons (Fz.mono k h) (FzA.mono k q)
end
section
variable {c : Cn} {R : Hp}
theorem FzA.len : ∀ {vs : List V} {ds : List D}, FzA c R vs ds → vs.length = ds.length
  | _, _, .nil => rfl
  | _, _, .cons _ q => congrArg (· + 1) (FzA.len q)
theorem FzA.get : ∀ {vs : List V} {ds : List D} {i : Nat} {d : D}, FzA c R vs ds → ds[i]? = some d → ∃ v, vs[i]? = some v ∧ Fz c R v d
  | _, _, _, _, .nil, e => by simp at e
  | _, _, 0, _, .cons h _, e => by simp at e; subst e; exact ⟨_, rfl, h⟩
  | _, _, i + 1, d, .cons _ q, e => by
    obtain ⟨v, a, b⟩ := FzA.get (i := i) (d := d) q (by simpa using e)
    exact ⟨v, by simpa using a, b⟩
theorem FzA.getV : ∀ {vs : List V} {ds : List D} {i : Nat} {v : V}, FzA c R vs ds → vs[i]? = some v → ∃ d, ds[i]? = some d ∧ Fz c R v d
  | _, _, _, _, .nil, e => by simp at e
  | _, _, 0, _, .cons h _, e => by simp at e; subst e; exact ⟨_, rfl, h⟩
  | _, _, i + 1, d, .cons _ q, e => by
    obtain ⟨v, a, b⟩ := FzA.getV (i := i) q (by simpa using e)
    exact ⟨v, by simpa using a, b⟩
theorem FzA.app : ∀ {vs ws : List V} {ds es : List D}, FzA c R vs ds → FzA c R ws es → FzA c R (vs ++ ws) (ds ++ es)
  | _, _, _, _, .nil, s => s
  | _, _, _, _, .cons h q, s => .cons h (FzA.app q s)
theorem FzA.take : ∀ {vs : List V} {ds : List D} (n : Nat), FzA c R vs ds → FzA c R (vs.take n) (ds.take n)
  | _, _, 0, _ => .nil
  | _, _, _ + 1, .nil => .nil
  | _, _, n + 1, .cons h q => .cons h (FzA.take n q)
theorem FzA.drop : ∀ {vs : List V} {ds : List D} (n : Nat), FzA c R vs ds → FzA c R (vs.drop n) (ds.drop n)
  | _, _, 0, r => r
  | _, _, _ + 1, .nil => .nil
  | _, _, n + 1, .cons _ q => FzA.drop n q
theorem FzA.rev : ∀ {ws : List V} {ds : List D}, FzA c R ws ds → FzA c R ws.reverse ds.reverse
  | _, _, .nil => .nil
  | _, _, .cons a b => by
    rw [List.reverse_cons, List.reverse_cons]
    exact (FzA.rev b).app (.cons a .nil)
theorem FzA.snoc_inv : ∀ {ws : List V} {ds : List D} {d : D}, FzA c R ws (ds ++ [d]) → ∃ ws0 w, ws = ws0 ++ [w] ∧ FzA c R ws0 ds ∧ Fz c R w d
  | _, [], d, h => by
    cases h with
    | cons a b => cases b; exact ⟨[], _, rfl, .nil, a⟩
  | _, e :: r, d, h => by
    cases h with
    | @cons v vs _ _ a b =>
      obtain ⟨ws0, w, rfl, h1, h2⟩ := FzA.snoc_inv (ds := r) b
      exact ⟨v :: ws0, w, rfl, .cons a h1, h2⟩
theorem FzA.set : ∀ {vs : List V} {ds : List D} (i : Nat) {v : V} {d : D}, FzA c R vs ds → Fz c R v d → FzA c R (vs.set i v) (ds.set i d)
  | _, _, _, _, _, .nil, _ => .nil
  | _, _, 0, _, _, .cons _ q, h => .cons h q
  | _, _, i + 1, _, _, .cons p q, h => .cons p (FzA.set i q h)
theorem Fz.tup_inv {v : V} {ds : List D} (h : Fz c R v (.tup ds)) : ∃ a xs, v = .ref a ∧ SqT c.K R a xs ∧ xs.length ≤ sizeLine ∧ FzA c R xs ds := by
  cases h with | tup a b d => exact ⟨_, _, rfl, a, b, d⟩
theorem Fz.lst_inv {v : V} {ds : List D} (h : Fz c R v (.lst ds)) : ∃ a xs, v = .ref a ∧ R a = some (.lst xs) ∧ xs.length ≤ sizeLine ∧ FzA c R xs ds := by
  cases h with | lst a b d => exact ⟨_, _, rfl, a, b, d⟩
theorem Fz.str_inv {v : V} {x : Str} (h : Fz c R v (.str x)) : v = .str x ∧ x.length ≤ sizeLine := by
  cases h with | str _ z => exact ⟨rfl, z⟩
theorem Fz.int_inv {v : V} {i : Int} (h : Fz c R v (.int i)) : v = .int i := by cases h; rfl
theorem Fz.bl_inv {v : V} {b : Bool} (h : Fz c R v (.bl b)) : v = .bl b := by cases h; rfl
theorem Fz.non_inv {v : V} (h : Fz c R v .non) : v = .non := by cases h; rfl
end
/-- what an owned object holds -/
inductive FzO (c : Cn) (R : Hp) : HO → D → Prop
  | lst {xs : List V} {ds : List D} : xs.length ≤ sizeLine → FzA c R xs ds → FzO c R (.lst xs) (.lst ds)
  | dk {kvs : List (Key × V)} {ds : List D} : kvs.length ≤ sizeLine → FzA c R (kvs.map Prod.snd) ds → FzO c R (.dK kvs) (.dk (kvs.map Prod.fst) ds)
theorem FzO.mono {c : Cn} {R R' : Hp} (k : Le R R') {o : HO} {d : D} (h : FzO c R o d) : FzO c R' o d := by
  cases h with
  | lst z q => exact .lst z (q.mono k)
  | dk z q => exact .dk z (q.mono k)
theorem FzO.fz {c : Cn} {R : Hp} {o : HO} {d : D} {a : Addr} (h : FzO c R o d) (e : R a = some o) : Fz c R (.ref a) d := by
  cases h with
  | lst z q => exact .lst e z q
  | dk z q => exact .dk (.inl e) z q

/-- a world beside the data: objects that are changed by some calls, by a number -/
structure Wd where
  dom : List Addr
  st : Nat → Hp → Prop
  only : ∀ n H H', st n H → (∀ a ∈ dom, H' a = H a) → st n H'
  there : ∀ n H, st n H → ∀ a ∈ dom, H a ≠ none
structure Gm where
  c : Cn
  W : Wd
  ow : List Nat
  H0 : Hp
  R0 : Hp
structure HpOk (Γ : Gm) (R H : Hp) (n : Nat) : Prop where
  same : Same R H
  dj : ∀ a ∈ Γ.W.dom, R a = none
  d0 : ∀ a ∈ Γ.W.dom, Γ.H0 a ≠ none
  wd : Γ.W.st n H
  keep : Keep Γ.W.dom Γ.H0 H
  r0 : Same Γ.R0 R
  new : ∀ a, R a ≠ none → Γ.R0 a ≠ none ∨ Γ.H0 a = none
abbrev Sd := List (Option D)
structure Rp (Γ : Gm) (R H : Hp) (σ : L2.St) (ρ : Sd) (n : Nat) : Prop where
  len : σ.length = ρ.length
  fz : ∀ i d, i ∉ Γ.ow → ρ[i]? = some (some d) → ∃ v, σ[i]? = some (some v) ∧ Fz Γ.c R v d
  own : ∀ i d, i ∈ Γ.ow → ρ[i]? = some (some d) → ∃ a o, σ[i]? = some (some (.ref a)) ∧ H a = some o ∧ R a = none ∧ Γ.H0 a = none ∧ FzO Γ.c R o d
  dist : ∀ i j a d e, i ∈ Γ.ow → j ∈ Γ.ow → ρ[i]? = some (some d) → ρ[j]? = some (some e) → σ[i]? = some (some (.ref a)) → σ[j]? = some (some (.ref a)) → i = j
  hp : HpOk Γ R H n
section
variable {Γ : Gm} {R R' H H' : Hp} {σ : L2.St} {ρ : Sd} {n n' : Nat}
theorem Keep.nn {D : List Addr} {H H' : Hp} {a : Addr} (k : Keep D H H') (hd : ∀ b ∈ D, H' b ≠ Option.none) (h : H' a = Option.none) : H a = Option.none := by
  cases q : H a with
  | none => rfl
  | some o =>
    by_cases m : a ∈ D
    · exact absurd h (hd a m)
    · rw [k a o q m] at h; cases h
theorem HpOk.nn (h : HpOk Γ R H n) {a : Addr} (e : H a = none) : Γ.H0 a = none := Keep.nn h.keep (Γ.W.there n H h.wd) e
/-- a new frozen object -/
theorem HpOk.lay {p : Addr} {o : HO} (h : HpOk Γ R H n) (hp : H p = none) : HpOk Γ (upd R p o) (upd H p o) n := by
  have hRp : R p = none := h.same.free hp
  have hpd : p ∉ Γ.W.dom := fun m => Γ.W.there n H h.wd p m hp
  refine ⟨fun a u e => ?_, fun a m => ?_, h.d0, ?_, h.keep.new hp, h.r0.trans (same_new hRp _), fun a e => ?_⟩
  · by_cases q : a = p
    · subst q; rw [upd_same] at e; cases e; exact upd_same
    · rw [upd_ne q] at e ⊢; exact h.same _ _ e
  · have : a ≠ p := fun q => hpd (q ▸ m)
    rw [upd_ne this]; exact h.dj a m
  · refine Γ.W.only n H _ h.wd fun a m => ?_
    have : a ≠ p := fun q => hpd (q ▸ m)
    rw [upd_ne this]
  · by_cases q : a = p
    · subst q; exact .inr (h.nn hp)
    · rw [upd_ne q] at e; exact h.new a e
/-- a new object that is not frozen -/
theorem HpOk.lay0 {p : Addr} {o : HO} (h : HpOk Γ R H n) (hp : H p = none) : HpOk Γ R (upd H p o) n := by
  have hRp : R p = none := h.same.free hp
  have hpd : p ∉ Γ.W.dom := fun m => Γ.W.there n H h.wd p m hp
  refine ⟨h.same.new hp, h.dj, h.d0, ?_, h.keep.new hp, h.r0, h.new⟩
  refine Γ.W.only n H _ h.wd fun a m => ?_
  have : a ≠ p := fun q => hpd (q ▸ m)
  rw [upd_ne this]
/-- a younger object that is not frozen is changed -/
theorem HpOk.mut {p : Addr} {o : HO} (h : HpOk Γ R H n) (hR : R p = none) (h0 : Γ.H0 p = none) : HpOk Γ R (upd H p o) n := by
  have hpd : p ∉ Γ.W.dom := fun m => h.d0 p m h0
  refine ⟨h.same.mutN hR, h.dj, h.d0, ?_, h.keep.mutN h0, h.r0, h.new⟩
  refine Γ.W.only n H _ h.wd fun a m => ?_
  have : a ≠ p := fun q => hpd (q ▸ m)
  rw [upd_ne this]
theorem Rp.lay {p : Addr} {o : HO} (h : Rp Γ R H σ ρ n) (hp : H p = none) : Rp Γ (upd R p o) (upd H p o) σ ρ n := by
  have hRp : R p = none := h.hp.same.free hp
  have S := same_new hRp o
  refine ⟨h.len, fun i d hi e => ?_, fun i d hi e => ?_, h.dist, h.hp.lay hp⟩
  · obtain ⟨v, h1, h2⟩ := h.fz i d hi e
    exact ⟨v, h1, h2.mono S.le⟩
  · obtain ⟨a, u, h1, h2, h3, h4, h5⟩ := h.own i d hi e
    have q : a ≠ p := ne_of_none h2 hp
    exact ⟨a, u, h1, by rw [upd_ne q]; exact h2, by rw [upd_ne q]; exact h3, h4, h5.mono S.le⟩
theorem Rp.lay0 {p : Addr} {o : HO} (h : Rp Γ R H σ ρ n) (hp : H p = none) : Rp Γ R (upd H p o) σ ρ n := by
  refine ⟨h.len, h.fz, fun i d hi e => ?_, h.dist, h.hp.lay0 hp⟩
  obtain ⟨a, u, h1, h2, h3, h4, h5⟩ := h.own i d hi e
  have q : a ≠ p := ne_of_none h2 hp
  exact ⟨a, u, h1, by rw [upd_ne q]; exact h2, h3, h4, h5⟩
/-- the heap went on (a call) -/
theorem HpOk.then (h : HpOk Γ R H n) (k : HpOk ⟨Γ.c, Γ.W, [], H, R⟩ R' H' n') : HpOk Γ R' H' n' := by
  refine ⟨k.same, k.dj, h.d0, k.wd, h.keep.trans k.keep, h.r0.trans k.r0, fun a e => ?_⟩
  rcases k.new a e with q | q
  · exact h.new a q
  · exact .inr (h.nn q)
theorem HpOk.enter (h : HpOk Γ R H n) : HpOk ⟨Γ.c, Γ.W, [], H, R⟩ R H n :=
  ⟨h.same, h.dj, Γ.W.there n H h.wd, h.wd, Keep.refl _ _, Same.refl _, fun _ e => .inl e⟩
theorem Rp.then (h : Rp Γ R H σ ρ n) (k : HpOk ⟨Γ.c, Γ.W, [], H, R⟩ R' H' n') : Rp Γ R' H' σ ρ n' := by
  refine ⟨h.len, fun i d hi e => ?_, fun i d hi e => ?_, h.dist, h.hp.then k⟩
  · obtain ⟨v, h1, h2⟩ := h.fz i d hi e
    exact ⟨v, h1, h2.mono k.r0.le⟩
  · obtain ⟨a, u, h1, h2, h3, h4, h5⟩ := h.own i d hi e
    have hd : a ∉ Γ.W.dom := fun m => h.hp.d0 a m h4
    refine ⟨a, u, h1, k.keep a u h2 hd, ?_, h4, h5.mono k.r0.le⟩
    cases q : R' a with
    | none => rfl
    | some z =>
      rcases k.new a (by rw [q]; exact fun z => nomatch z) with z | z
      · exact absurd h3 z
      · rw [show H a = none from z] at h2; cases h2
theorem Rp.set {i : Nat} {v : V} {d : D} (h : Rp Γ R H σ ρ n) (hi : i ∉ Γ.ow) (hv : Fz Γ.c R v d) : Rp Γ R H (σ.set i (some v)) (ρ.set i (some d)) n := by
  refine ⟨by rw [List.length_set, List.length_set]; exact h.len, fun j e hj q => ?_, fun j e hj q => ?_, fun j k a d1 d2 hj hk q1 q2 q3 q4 => ?_, h.hp⟩
  · by_cases z : j = i
    · subst z
      have hl : j < ρ.length := by
        have := (List.getElem?_eq_some_iff.mp q).1
        rwa [List.length_set] at this
      rw [List.getElem?_set_self hl] at q
      cases q
      exact ⟨v, List.getElem?_set_self (by rw [h.len]; exact hl), hv⟩
    · rw [List.getElem?_set_ne (Ne.symm z)] at q ⊢
      exact h.fz j e hj q
  · have z : j ≠ i := fun z => hi (z ▸ hj)
    rw [List.getElem?_set_ne (Ne.symm z)] at q ⊢
    exact h.own j e hj q
  · have z1 : j ≠ i := fun z => hi (z ▸ hj)
    have z2 : k ≠ i := fun z => hi (z ▸ hk)
    rw [List.getElem?_set_ne (Ne.symm z1)] at q1 q3
    rw [List.getElem?_set_ne (Ne.symm z2)] at q2 q4
    exact h.dist j k a d1 d2 hj hk q1 q2 q3 q4
/-- a piece of the way: nothing but the world's objects changed, what is frozen anew is new -/
structure Go (Γ : Gm) (R H R' H' : Hp) : Prop where
  same : Same R R'
  keep : Keep Γ.W.dom H H'
  new : ∀ a, R' a ≠ none → R a ≠ none ∨ H a = none
  nn : ∀ a, H' a = none → H a = none
theorem Go.refl (Γ : Gm) (R H : Hp) : Go Γ R H R H := ⟨Same.refl _, Keep.refl _ _, fun _ e => .inl e, fun _ e => e⟩
theorem Go.trans {R1 H1 R2 H2 : Hp} (g : Go Γ R H R1 H1) (k : Go Γ R1 H1 R2 H2) : Go Γ R H R2 H2 :=
  ⟨g.same.trans k.same, g.keep.trans k.keep, fun a e => (k.new a e).elim (g.new a) fun z => .inr (g.nn a z), fun a e => g.nn a (k.nn a e)⟩
theorem Go.le (g : Go Γ R H R' H') : Le R R' := g.same.le
theorem Rp.go {p : Addr} {o : HO} (h : Rp Γ R H σ ρ n) (hp : H p = none) : Go Γ R H (upd R p o) (upd H p o) := by
  have hRp : R p = none := h.hp.same.free hp
  refine ⟨same_new hRp o, (Keep.refl _ _).new hp, fun a e => ?_, fun a e => ?_⟩
  · by_cases q : a = p
    · subst q; exact .inr hp
    · rw [upd_ne q] at e; exact .inl e
  · by_cases q : a = p
    · subst q; exact hp
    · rw [upd_ne q] at e; exact e
theorem HpOk.go (k : HpOk ⟨Γ.c, Γ.W, [], H, R⟩ R' H' n') : Go Γ R H R' H' := ⟨k.r0, k.keep, k.new, fun a e => HpOk.nn k e⟩
/-- a slot gets an owned object -/
theorem Rp.setO {i : Nat} {a : Addr} {o : HO} {d : D} (h : Rp Γ R H σ ρ n) (hi : i ∈ Γ.ow) (ha : H a = some o) (hR : R a = none) (h0 : Γ.H0 a = none) (hv : FzO Γ.c R o d)
    (hn : ∀ j e, j ∈ Γ.ow → j ≠ i → ρ[j]? = some (some e) → σ[j]? ≠ some (some (.ref a))) : Rp Γ R H (σ.set i (some (.ref a))) (ρ.set i (some d)) n := by
  refine ⟨by rw [List.length_set, List.length_set]; exact h.len, fun j e hj q => ?_, fun j e hj q => ?_, fun j k b d1 d2 hj hk q1 q2 q3 q4 => ?_, h.hp⟩
  · have z : j ≠ i := fun z => hj (z ▸ hi)
    rw [List.getElem?_set_ne (Ne.symm z)] at q ⊢
    exact h.fz j e hj q
  · by_cases z : j = i
    · subst z
      have hl : j < ρ.length := by
        have := (List.getElem?_eq_some_iff.mp q).1
        rwa [List.length_set] at this
      rw [List.getElem?_set_self hl] at q
      cases q
      exact ⟨a, o, List.getElem?_set_self (by rw [h.len]; exact hl), ha, hR, h0, hv⟩
    · rw [List.getElem?_set_ne (Ne.symm z)] at q ⊢
      exact h.own j e hj q
  · by_cases z1 : j = i
    · by_cases z2 : k = i
      · rw [z1, z2]
      · subst z1
        rw [List.getElem?_set_ne (Ne.symm z2)] at q2 q4
        have hl : j < σ.length := by
          have := (List.getElem?_eq_some_iff.mp q3).1
          rwa [List.length_set] at this
        rw [List.getElem?_set_self hl] at q3
        cases q3
        exact absurd q4 (hn k d2 hk z2 q2)
    · rw [List.getElem?_set_ne (Ne.symm z1)] at q1 q3
      by_cases z2 : k = i
      · subst z2
        have hl : k < σ.length := by
          have := (List.getElem?_eq_some_iff.mp q4).1
          rwa [List.length_set] at this
        rw [List.getElem?_set_self hl] at q4
        cases q4
        exact absurd q3 (hn j d1 hj z1 q1)
      · rw [List.getElem?_set_ne (Ne.symm z2)] at q2 q4
        exact h.dist j k b d1 d2 hj hk q1 q2 q3 q4
/-- an owned object is changed -/
theorem Rp.mut {i : Nat} {a : Addr} {o : HO} {d d' : D} (h : Rp Γ R H σ ρ n) (hi : i ∈ Γ.ow) (hd : ρ[i]? = some (some d)) (hs : σ[i]? = some (some (.ref a))) (hv : FzO Γ.c R o d') : Rp Γ R (upd H a o) σ (ρ.set i (some d')) n := by
  obtain ⟨a', u, h1, h2, h3, h4, h5⟩ := h.own i d hi hd
  rw [hs] at h1; cases h1
  refine ⟨by rw [List.length_set]; exact h.len, fun j e hj q => ?_, fun j e hj q => ?_, fun j k b d1 d2 hj hk q1 q2 q3 q4 => ?_, h.hp.mut h3 h4⟩
  · have z : j ≠ i := fun z => hj (z ▸ hi)
    rw [List.getElem?_set_ne (Ne.symm z)] at q
    exact h.fz j e hj q
  · by_cases z : j = i
    · subst z
      have hl : j < ρ.length := by
        have := (List.getElem?_eq_some_iff.mp q).1
        rwa [List.length_set] at this
      rw [List.getElem?_set_self hl] at q
      cases q
      exact ⟨a, o, hs, upd_same, h3, h4, hv⟩
    · rw [List.getElem?_set_ne (Ne.symm z)] at q
      obtain ⟨b, u', g1, g2, g3, g4, g5⟩ := h.own j e hj q
      have : b ≠ a := fun w => z (h.dist j i a e d hj hi q hd (w ▸ g1) hs)
      exact ⟨b, u', g1, by rw [upd_ne this]; exact g2, g3, g4, g5⟩
  · have ex : ∀ m e, m ∈ Γ.ow → (ρ.set i (some d'))[m]? = some (some e) → ∃ e', ρ[m]? = some (some e') := fun m e hm q => by
      by_cases z : m = i
      · exact ⟨d, z ▸ hd⟩
      · rw [List.getElem?_set_ne (Ne.symm z)] at q; exact ⟨e, q⟩
    obtain ⟨e1, g1⟩ := ex j d1 hj q1
    obtain ⟨e2, g2⟩ := ex k d2 hk q2
    exact h.dist j k b e1 e2 hj hk g1 g2 q3 q4
end
end Sh

set_option Elab.async false
set_option linter.all false
set_option maxRecDepth 100000
/-! expressions by data -/
namespace Sh
open PySem L2 Nf
abbrev M (α : Type) := Nat → Option (α × Nat)
def Mp {α : Type} (a : α) : M α := fun n => some (a, n)
def Mb {α β : Type} (x : M α) (f : α → M β) : M β := fun n => match x n with
  | none => none
  | some (a, n') => f a n'
def Mo {α : Type} (o : Option α) : M α := fun n => o.map (·, n)
theorem Mb_some {α β : Type} {x : M α} {f : α → M β} {n n' : Nat} {b : β} (h : Mb x f n = some (b, n')) : ∃ a m, x n = some (a, m) ∧ f a m = some (b, n') := by
  unfold Mb at h
  cases e : x n with
  | none => rw [e] at h; cases h
  | some p => obtain ⟨a, m⟩ := p; rw [e] at h; exact ⟨a, m, rfl, h⟩
theorem Mo_some {α : Type} {o : Option α} {n n' : Nat} {b : α} (h : Mo o n = some (b, n')) : o = some b ∧ n' = n := by
  unfold Mo at h
  cases o with
  | none => cases h
  | some a => cases h; exact ⟨rfl, rfl⟩
theorem ite_some {α : Type} {c : Prop} [Decidable c] {x : Option α} {a : α} (h : (if c then x else none) = some a) : c ∧ x = some a := by
  by_cases hc : c
  · rw [if_pos hc] at h; exact ⟨hc, h⟩
  · rw [if_neg hc] at h; cases h
theorem Mb_eq {α β : Type} {x : M α} {f : α → M β} {n n' : Nat} {a : α} (h : x n = some (a, n')) : Mb x f n = f a n' := by unfold Mb; rw [h]
abbrev Ed := Sd → M D
abbrev Ad := Sd → M (List D)
abbrev Td := Sd → M Bool
def up (Γ : Gm) (t : Ed) : TE := fun σ H Q => ∃ R ρ n r n', Rp Γ R H σ ρ n ∧ t ρ n = some (r, n') ∧ ∀ v R' H', Rp Γ R' H' σ ρ n' → Go Γ R H R' H' → Fz Γ.c R' v r → Q v H'
def upA (Γ : Gm) (t : Ad) : TA := fun σ H Q => ∃ R ρ n r n', Rp Γ R H σ ρ n ∧ t ρ n = some (r, n') ∧ ∀ v R' H', Rp Γ R' H' σ ρ n' → Go Γ R H R' H' → FzA Γ.c R' v r → Q v H'
def upT (Γ : Gm) (t : Td) : TT := fun σ H Q => ∃ R ρ n r n', Rp Γ R H σ ρ n ∧ t ρ n = some (r, n') ∧ ∀ R' H', Rp Γ R' H' σ ρ n' → Go Γ R H R' H' → Q r H'
section
variable {X : Cx} {Γ : Gm}
theorem PE.wk {e : Expr} {t t' : TE} (h : PE X e t) (k : ∀ σ H Q, t' σ H Q → t σ H Q) : PE X e t' := ⟨fun pins s σ H Q I q => h.run pins s σ H Q I (k σ H Q q)⟩
theorem PT.wk {e : Expr} {t t' : TT} (h : PT X e t) (k : ∀ σ H Q, t' σ H Q → t σ H Q) : PT X e t' := ⟨fun pins s σ H Q I q => h.run pins s σ H Q I (k σ H Q q)⟩
theorem PW.wk {e : Expr} {t t' : TT} (h : PW X e t) (k : ∀ σ H Q, t' σ H Q → t σ H Q) : PW X e t' := ⟨fun wh pins s σ H Q I q => h.run wh pins s σ H Q I (k σ H Q q)⟩
theorem PA.wk {e : List Expr} {t t' : TA} (h : PA X e t) (k : ∀ σ H Q, t' σ H Q → t σ H Q) : PA X e t' := ⟨fun pos pins s σ H Q I q => h.run pos pins s σ H Q I (k σ H Q q)⟩
theorem PS.wk {e : Stmt} {t t' : TS} (h : PS X e t) (k : ∀ D σ H, t' D σ H → t D σ H) : PS X e t' := ⟨fun pins s σ H Q I q => h.run pins s σ H Q I (k Q σ H q)⟩
theorem PSs.wk {e : List Stmt} {t t' : TS} (h : PSs X e t) (k : ∀ D σ H, t' D σ H → t D σ H) : PSs X e t' := ⟨fun pins s σ H Q I q => h.run pins s σ H Q I (k Q σ H q)⟩
structure DE (X : Cx) (Γ : Gm) (e : Expr) (t : Ed) : Prop where
  p : PE X e (up Γ t)
structure DT (X : Cx) (Γ : Gm) (e : Expr) (t : Td) : Prop where
  p : PT X e (upT Γ t)
structure DW (X : Cx) (Γ : Gm) (e : Expr) (t : Td) : Prop where
  p : PW X e (upT Γ t)
structure DA (X : Cx) (Γ : Gm) (es : List Expr) (t : Ad) : Prop where
  p : PA X es (upA Γ t)
/-! names, constants -/
def eVar (i : Nat) : Ed := fun ρ n => match ρ[i]? with
  | some (some d) => some (d, n)
  | _ => none
def eC (d : D) : Ed := fun _ n => some (d, n)
theorem eVar_some {i : Nat} {ρ : Sd} {n n' : Nat} {r : D} (h : eVar i ρ n = some (r, n')) : ρ[i]? = some (some r) ∧ n' = n := by
  unfold eVar at h
  split at h
  · rename_i d e; cases h; exact ⟨e, rfl⟩
  · cases h
theorem d_var {i : Nat} {e : Expr} (h : PE X e (tVar i)) (hi' : Γ.ow.contains i = false := by rfl) : DE X Γ e (eVar i) := have hi := nmem_of hi'; ⟨PE.wk h fun σ H Q ⟨R, ρ, n, r, n', rp, e, q⟩ => by
  obtain ⟨e1, rfl⟩ := eVar_some e
  obtain ⟨v, h1, h2⟩ := rp.fz i r hi e1
  exact ⟨v, h1, q v R H rp (Go.refl _ _ _) h2⟩⟩
theorem d_c {e : Expr} {v : V} {d : D} (h : PE X e (tC v)) (hv : ∀ R, Fz Γ.c R v d) : DE X Γ e (eC d) := ⟨PE.wk h fun σ H Q ⟨R, ρ, n, r, n', rp, e, q⟩ => by
  cases e
  exact q v R H rp (Go.refl _ _ _) (hv R)⟩
theorem d_int {i j pos} : DE X Γ (.Constant (.int i) j pos) (eC (.int i)) := d_c pe_int fun _ => .int i
theorem d_bl {i j pos} : DE X Γ (.Constant (.bool i) j pos) (eC (.bl i)) := d_c pe_bl fun _ => .bl i
theorem d_non {j pos} : DE X Γ (.Constant .none j pos) (eC .non) := d_c pe_non fun _ => .non
theorem d_str {x j pos} (hz : x.length ≤ sizeLine := by decide +kernel) : DE X Γ (.Constant (.str x) j pos) (eC (.str x)) := d_c pe_str fun _ => .str x hz
/-! arguments -/
def aNil : Ad := fun _ n => some ([], n)
def aCons (t : Ed) (u : Ad) : Ad := fun ρ => Mb (t ρ) fun x => Mb (u ρ) fun xs => Mp (x :: xs)
theorem da_nil : DA X Γ [] aNil := ⟨PA.wk pa_nil fun σ H Q ⟨R, ρ, n, r, n', rp, e, q⟩ => by
  cases e
  exact q [] R H rp (Go.refl _ _ _) .nil⟩
theorem da_cons {e : Expr} {es : List Expr} {t : Ed} {u : Ad} (ha : DE X Γ e t) (hr : DA X Γ es u) (hs : starEach (e :: es) X.env = (false, eval e X.env) :: starEach es X.env := by rfl) : DA X Γ (e :: es) (aCons t u) :=
  ⟨PA.wk (pa_cons ha.p hr.p hs) fun σ H Q ⟨R, ρ, n, r, n', rp, e, q⟩ => by
    obtain ⟨x, m, e1, e⟩ := Mb_some e
    obtain ⟨xs, m2, e2, e⟩ := Mb_some e
    cases e
    refine ⟨R, ρ, n, x, m, rp, e1, fun v R1 H1 rp1 S1 z1 => ⟨R1, ρ, m, xs, _, rp1, e2, fun vs R2 H2 rp2 S2 z2 => ?_⟩⟩
    exact q _ R2 H2 rp2 (S1.trans S2) (.cons (z1.mono S2.le) z2)⟩
theorem aCons_len {t : Ed} {u : Ad} {k : Nat} (h : ∀ ρ n r n', u ρ n = some (r, n') → r.length = k) : ∀ ρ n r n', aCons t u ρ n = some (r, n') → r.length = k + 1 := fun ρ n r n' e => by
  obtain ⟨x, m, e1, e⟩ := Mb_some e
  obtain ⟨xs, m2, e2, e⟩ := Mb_some e
  cases e
  rw [List.length_cons, h _ _ _ _ e2]
theorem aNil_len : ∀ ρ n r n', aNil ρ n = some (r, n') → r.length = 0 := fun ρ n r n' e => by cases e; rfl
/-! operators -/
def e1 (f : D → Option D) (a : Ed) : Ed := fun ρ => Mb (a ρ) fun x => Mo (f x)
def e2 (f : D → D → Option D) (a b : Ed) : Ed := fun ρ => Mb (a ρ) fun x => Mb (b ρ) fun y => Mo (f x y)
/-- a reading by values gives what the data say -/
def Gives (Γ : Gm) (R H : Hp) (d : D) (r : Hp → VK → Prop) : Prop := ∀ σ ρ n Q, Rp Γ R H σ ρ n → (∀ v R' H', Rp Γ R' H' σ ρ n → Go Γ R H R' H' → Fz Γ.c R' v d → Q v H') → r H Q
def Op2 (Γ : Gm) (r : R2) (f : D → D → Option D) : Prop := ∀ R H x y dx dy d, f dx dy = some d → Same R H → Fz Γ.c R x dx → Fz Γ.c R y dy → Gives Γ R H d (r x y)
theorem gives_c {R H : Hp} {d : D} {v : V} {r : Hp → VK → Prop} (hv : Fz Γ.c R v d) (h : ∀ Q : VK, Q v H → r H Q) : Gives Γ R H d r := fun σ ρ n Q rp q => h Q (q v R H rp (Go.refl _ _ _) hv)
/-- a new frozen object -/
theorem gives_new {R H : Hp} {d : D} {o : HO} {r : Hp → VK → Prop} (hv : ∀ p R', R' p = some o → Same R R' → Fz Γ.c R' (.ref p) d) (h : ∀ Q : VK, (∀ p, H p = none → Q (.ref p) (upd H p o)) → r H Q) : Gives Γ R H d r := fun σ ρ n Q rp q =>
  h Q fun p hp => q _ _ _ (rp.lay hp) (rp.go hp) (hv p _ upd_same (rp.go hp).same)
theorem d_op {a b : Expr} {ta tb : Ed} {op : Operator} {r : R2} {f : D → D → Option D} {pos : Pos} (ho : OpR X (binaryOp op) r) (hf : Op2 Γ r f) (ha : DE X Γ a ta) (hb : DE X Γ b tb) : DE X Γ (.BinOp a op b pos) (e2 f ta tb) :=
  ⟨PE.wk (pe_op ho ha.p hb.p) fun σ H Q ⟨R, ρ, n, r, n', rp, e, q⟩ => by
    obtain ⟨x, m, e1, e⟩ := Mb_some e
    obtain ⟨y, m2, e2, e⟩ := Mb_some e
    obtain ⟨ee, rfl⟩ := Mo_some e
    refine ⟨R, ρ, n, x, m, rp, e1, fun v R1 H1 rp1 S1 z1 => ⟨R1, ρ, m, y, _, rp1, e2, fun u R2 H2 rp2 S2 z2 => ?_⟩⟩
    exact hf R2 H2 v u x y r ee rp2.hp.same (z1.mono S2.le) z2 σ ρ _ Q rp2 fun w R3 H3 rp3 S3 z3 => q w R3 H3 rp3 ((S1.trans S2).trans S3) z3⟩
theorem d_cmp {a b : Expr} {ta tb : Ed} {op : CmpOp} {r : R2} {f : D → D → Option D} {pos : Pos} (ho : OpR X (compareOp op) r) (hf : Op2 Γ r f) (ha : DE X Γ a ta) (hb : DE X Γ b tb) (hm : behindInMarks op b = false) : DE X Γ (.Compare a [op] [b] pos) (e2 f ta tb) :=
  ⟨PE.wk (pe_cmpR ho ha.p hb.p hm) fun σ H Q ⟨R, ρ, n, r, n', rp, e, q⟩ => by
    obtain ⟨x, m, e1, e⟩ := Mb_some e
    obtain ⟨y, m2, e2, e⟩ := Mb_some e
    obtain ⟨ee, rfl⟩ := Mo_some e
    refine ⟨R, ρ, n, x, m, rp, e1, fun v R1 H1 rp1 S1 z1 => ⟨R1, ρ, m, y, _, rp1, e2, fun u R2 H2 rp2 S2 z2 => ?_⟩⟩
    exact hf R2 H2 v u x y r ee rp2.hp.same (z1.mono S2.le) z2 σ ρ _ Q rp2 fun w R3 H3 rp3 S3 z3 => q w R3 H3 rp3 ((S1.trans S2).trans S3) z3⟩
theorem d_un {a : Expr} {ta : Ed} {op : UnaryOp} {r : V → Hp → VK → Prop} {f : D → Option D} {pos : Pos} (ho : UnR X (unaryOp op) r) (hf : ∀ R H x dx d, f dx = some d → Same R H → Fz Γ.c R x dx → Gives Γ R H d (r x)) (ha : DE X Γ a ta) : DE X Γ (.UnaryOp op a pos) (e1 f ta) :=
  ⟨PE.wk (pe_un ho ha.p) fun σ H Q ⟨R, ρ, n, r, n', rp, e, q⟩ => by
    obtain ⟨x, m, e1, e⟩ := Mb_some e
    obtain ⟨ee, rfl⟩ := Mo_some e
    refine ⟨R, ρ, n, x, _, rp, e1, fun v R1 H1 rp1 S1 z1 => ?_⟩
    exact hf R1 H1 v x r ee rp1.hp.same z1 σ ρ _ Q rp1 fun w R3 H3 rp3 S3 z3 => q w R3 H3 rp3 (S1.trans S3) z3⟩
def fNeg : D → Option D
  | .int i => some (.int (-i))
  | _ => none
theorem d_neg {a : Expr} {ta : Ed} {pos : Pos} (ha : DE X Γ a ta) : DE X Γ (.UnaryOp .USub a pos) (e1 fNeg ta) := d_un un_neg (fun R H x dx d e _ z => by
  cases z with
  | int i => cases e; exact gives_c (.int _) fun Q q => ⟨i, rfl, q⟩
  | _ => cases e) ha
def fSub : D → D → Option D
  | .int i, .int j => some (.int (i - j))
  | _, _ => none
theorem d_sub {a b : Expr} {ta tb : Ed} {pos : Pos} (ha : DE X Γ a ta) (hb : DE X Γ b tb) : DE X Γ (.BinOp a .Sub b pos) (e2 fSub ta tb) := d_op op_sub (fun R H x y dx dy d e _ z1 z2 => by
  cases z1 with
  | int i => cases z2 with
    | int j => cases e; exact gives_c (.int _) fun Q q => ⟨i, j, rfl, rfl, q⟩
    | _ => cases e
  | _ => cases e) ha hb
def fMod : D → D → Option D
  | .int i, .int j => if 0 < j then some (.int (i % j)) else none
  | _, _ => none
theorem d_mod {a b : Expr} {ta tb : Ed} {pos : Pos} (ha : DE X Γ a ta) (hb : DE X Γ b tb) : DE X Γ (.BinOp a .Mod b pos) (e2 fMod ta tb) := d_op op_mod (fun R H x y dx dy d e _ z1 z2 => by
  cases z1 with
  | int i => cases z2 with
    | int j =>
      obtain ⟨hj, e⟩ := ite_some e
      cases e; exact gives_c (.int _) fun Q q => ⟨i, j, rfl, rfl, hj, q⟩
    | _ => cases e
  | _ => cases e) ha hb
def fDiv : D → D → Option D
  | .int i, .int j => if 0 < j ∧ j < 1073741824 then some (.int (i / j)) else none
  | _, _ => none
theorem d_div {a b : Expr} {ta tb : Ed} {pos : Pos} (ha : DE X Γ a ta) (hb : DE X Γ b tb) : DE X Γ (.BinOp a .FloorDiv b pos) (e2 fDiv ta tb) := d_op op_fdiv (fun R H x y dx dy d e _ z1 z2 => by
  cases z1 with
  | int i => cases z2 with
    | int j =>
      obtain ⟨hj, e⟩ := ite_some e
      cases e; exact gives_c (.int _) fun Q q => ⟨i, j, rfl, rfl, hj, q⟩
    | _ => cases e
  | _ => cases e) ha hb
end
end Sh

set_option Elab.async false
set_option linter.all false
set_option maxRecDepth 100000
namespace Sh
open PySem PySem.Spec PyProof.Rows L2
theorem op_mul_str {X : Cx} : OpR X (binaryOp .Mult) (fun x y H Q => ∃ z i, x = .str z ∧ y = .int i ∧ z.length ≤ 16 ∧ -(2 ^ 63 : Int) ≤ i ∧ i ≤ 1048576 ∧ Q (.str (Txt.mul z i)) H) := by
  intro pins s σ H x y v u Q I rx ry h
  obtain ⟨z, i, rfl, rfl, h1, h2, h3, q⟩ := h
  obtain ⟨t, rfl⟩ := rx
  obtain ⟨t2, rfl⟩ := ry
  exact PySem.W.KXi.mul rfl h1 h2 h3 fun t3 k _ _ => ⟨.str (Txt.mul z i), H, I.tok _, ⟨_, rfl⟩, q⟩
end Sh
namespace Sh
open PySem L2 Nf
section
variable {X : Cx} {Γ : Gm} {a b : Expr} {ta tb : Ed} {pos : Pos}
def szl {α : Type} (n : Nat) (x : α) : Option α := if n ≤ sizeLine then some x else none
theorem szl_some {α : Type} {n : Nat} {x y : α} (h : szl n x = some y) : n ≤ sizeLine ∧ x = y := by
  obtain ⟨a, b⟩ := ite_some h
  exact ⟨a, Option.some.inj b⟩
def fAdd : D → D → Option D
  | .int i, .int j => some (.int (i + j))
  | .str x, .str y => szl (x.length + y.length) (.str (x ++ y))
  | .lst x, .lst y => szl (x.length + y.length) (.lst (x ++ y))
  | .tup x, .tup y => szl (x.length + y.length) (.tup (x ++ y))
  | _, _ => none
theorem len_append (x y : Str) : (x ++ y).length = x.length + y.length := Array.size_append
theorem d_add (ha : DE X Γ a ta) (hb : DE X Γ b tb) (hK : X.K = Γ.c.K := by rfl) : DE X Γ (.BinOp a .Add b pos) (e2 fAdd ta tb) := by
  refine d_op (op_add.or (op_add_str.or (op_cat.or op_catA))) (fun R H x y dx dy d e S z1 z2 => ?_) ha hb
  cases z1 with
  | int i => cases z2 with
    | int j => cases e; exact gives_c (.int _) fun Q q => .inl ⟨i, j, rfl, rfl, q⟩
    | _ => cases e
  | str i h1 => cases z2 with
    | str j h2 =>
      obtain ⟨hz, rfl⟩ := szl_some e
      exact gives_c (.str _ (by rw [len_append]; exact hz)) fun Q q => .inr (.inl ⟨i, j, rfl, rfl, hz, q⟩)
    | _ => cases e
  | lst h1 l1 a1 => cases z2 with
    | lst h2 l2 a2 =>
      obtain ⟨hz, rfl⟩ := szl_some e
      rw [← a1.len, ← a2.len] at hz
      refine gives_new (o := .lst _) (fun p R' e' S' => .lst e' ?_ ((a1.app a2).mono S'.le)) fun Q q => .inr (.inr (.inl ⟨_, _, _, _, rfl, rfl, S _ _ h1, S _ _ h2, hz, q⟩))
      rw [List.length_append]; exact hz
    | _ => cases e
  | tup h1 l1 a1 => cases z2 with
    | tup h2 l2 a2 =>
      obtain ⟨hz, rfl⟩ := szl_some e
      rw [← a1.len, ← a2.len] at hz
      rw [hK]
      intro σ ρ n Q rp q
      refine .inr (.inr (.inr ⟨_, _, _, _, rfl, rfl, S.le.sqT h1, S.le.sqT h2, hz, fun e1 => ?_, fun _ e1 => ?_, fun _ _ p hp => ?_⟩))
      · subst e1
        cases a1
        exact q _ R H rp (Go.refl _ _ _) (.tup h2 l2 (by simpa using a2))
      · subst e1
        cases a2
        exact q _ R H rp (Go.refl _ _ _) (.tup h1 l1 (by simpa using a1))
      · exact q _ _ _ (rp.lay hp) (rp.go hp) (.tup (SqT.of upd_same) (by rw [List.length_append]; exact hz) ((a1.app a2).mono (rp.go hp).le))
    | _ => cases e
  | _ => cases e
def fMul : D → D → Option D
  | .int i, .int j => if (-(2 ^ 64) < i ∧ i < 2 ^ 64) ∨ (-(2 ^ 64) < j ∧ j < 2 ^ 64) then some (.int (i * j)) else none
  | .str x, .int i => if x.length ≤ 16 ∧ -(2 ^ 63 : Int) ≤ i ∧ i ≤ 1048576 ∧ (Txt.mul x i).length ≤ sizeLine then some (.str (Txt.mul x i)) else none
  | .lst x, .int k => if -(2 ^ 63 : Int) ≤ k ∧ k < 2 ^ 63 ∧ x.length * k.toNat ≤ sizeLine then some (.lst (List.replicate k.toNat x).flatten) else none
  | _, _ => none
theorem fzA_rep {c : Cn} {R : Hp} {vs : List V} {ds : List D} (h : FzA c R vs ds) : ∀ k : Nat, FzA c R (List.replicate k vs).flatten (List.replicate k ds).flatten
  | 0 => .nil
  | k + 1 => by
    rw [List.replicate_succ, List.replicate_succ, List.flatten_cons, List.flatten_cons]
    exact h.app (fzA_rep h k)
theorem d_mul (ha : DE X Γ a ta) (hb : DE X Γ b tb) : DE X Γ (.BinOp a .Mult b pos) (e2 fMul ta tb) := by
  refine d_op (op_mul.or (op_mul_str.or op_rep)) (fun R H x y dx dy d e S z1 z2 => ?_) ha hb
  cases z1 with
  | int i => cases z2 with
    | int j =>
      obtain ⟨hz, e⟩ := ite_some e
      cases e; exact gives_c (.int _) fun Q q => .inl ⟨i, j, rfl, rfl, hz, q⟩
    | _ => cases e
  | str i h1 => cases z2 with
    | int j =>
      obtain ⟨hz, e⟩ := ite_some e
      cases e
      exact gives_c (.str _ hz.2.2.2) fun Q q => .inr (.inl ⟨i, j, rfl, rfl, hz.1, hz.2.1, hz.2.2.1, q⟩)
    | _ => cases e
  | @lst l xs ds h1 l1 a1 => cases z2 with
    | int j =>
      obtain ⟨hz, e⟩ := ite_some e
      cases e
      rw [← a1.len] at hz
      refine gives_new (o := .lst _) (fun p R' e' S' => .lst e' ?_ ((fzA_rep a1 _).mono S'.le)) fun Q q => .inr (.inr ⟨_, _, _, rfl, rfl, S _ _ h1, hz.1, hz.2.1, hz.2.2, q⟩)
      rw [List.length_flatten, List.map_replicate, List.sum_replicate_nat, Nat.mul_comm]; exact hz.2.2
    | _ => cases e
  | _ => cases e
def fPow : D → D → Option D
  | .int i, .int j => if 0 ≤ j ∧ j ≤ 1000000 ∧ i.natAbs < 2 ^ 64 then some (.int (i ^ j.toNat)) else none
  | _, _ => none
theorem d_pow (ha : DE X Γ a ta) (hb : DE X Γ b tb) : DE X Γ (.BinOp a .Pow b pos) (e2 fPow ta tb) := d_op op_pow (fun R H x y dx dy d e _ z1 z2 => by
  cases z1 with
  | int i => cases z2 with
    | int j =>
      obtain ⟨hj, e⟩ := ite_some e
      cases e; exact gives_c (.int _) fun Q q => ⟨i, j, rfl, rfl, hj, q⟩
    | _ => cases e
  | _ => cases e) ha hb
/-! comparisons of numbers -/
def fI (p : Int → Int → Bool) : D → D → Option D
  | .int i, .int j => some (.bl (p i j))
  | _, _ => none
theorem op2I {p : Int → Int → Bool} : Op2 Γ (rI0 fun i j => .bl (p i j)) (fI p) := fun R H x y dx dy d e _ z1 z2 => by
  cases z1 with
  | int i => cases z2 with
    | int j => cases e; exact gives_c (.bl _) fun Q q => ⟨i, j, rfl, rfl, q⟩
    | _ => cases e
  | _ => cases e
def fLt := fI fun i j => decide (i < j)
def fLe := fI fun i j => decide (i ≤ j)
def fGt := fI fun i j => decide (j < i)
def fGe := fI fun i j => decide (j ≤ i)
theorem o2Lt : Op2 Γ (rI0 fun i j => .bl (decide (i < j))) fLt := op2I
theorem o2Le : Op2 Γ (rI0 fun i j => .bl (decide (i ≤ j))) fLe := op2I
theorem o2Gt : Op2 Γ (rI0 fun i j => .bl (decide (j < i))) fGt := op2I
theorem o2Ge : Op2 Γ (rI0 fun i j => .bl (decide (j ≤ i))) fGe := op2I
/-! is None -/
def isNon : D → Bool
  | .non => true
  | _ => false
theorem Fz.isNon {c : Cn} {R : Hp} {v : V} {d : D} (h : Fz c R v d) : decide (v = .non) = Sh.isNon d := by cases h <;> rfl
def fIs : D → D → Option D
  | x, .non => some (.bl (isNon x))
  | _, _ => none
def fIsNot : D → D → Option D
  | x, .non => some (.bl (!isNon x))
  | _, _ => none
theorem o2Is : Op2 Γ (fun x y H Q => y = .non ∧ Q (.bl (decide (x = .non))) H) fIs := fun R H x y dx dy d e _ z1 z2 => by
  cases z2 with
  | non =>
    have e' : some (D.bl (isNon dx)) = some d := by cases dx <;> exact e
    cases e'
    exact gives_c (.bl _) fun Q q => ⟨rfl, by rw [z1.isNon]; exact q⟩
  | _ => cases dx <;> cases e
theorem o2IsNot : Op2 Γ (fun x y H Q => y = .non ∧ Q (.bl (!decide (x = .non))) H) fIsNot := fun R H x y dx dy d e _ z1 z2 => by
  cases z2 with
  | non =>
    have e' : some (D.bl (!isNon dx)) = some d := by cases dx <;> exact e
    cases e'
    exact gives_c (.bl _) fun Q q => ⟨rfl, by rw [z1.isNon]; exact q⟩
  | _ => cases dx <;> cases e
/-! == and != -/
mutual
def D.py : D → Option PyData
  | .non => some .none
  | .bl b => some (.bool b)
  | .int i => some (.int i)
  | .str x => some (.str x)
  | .tup ds => (D.pyA ds).map .tuple
  | .lst ds => (D.pyA ds).map .list
  | _ => none
def D.pyA : List D → Option (List PyData)
  | [] => some []
  | d :: r => match D.py d, D.pyA r with
    | some p, some q => some (p :: q)
    | _, _ => none
end
mutual
theorem Fz.dp {c : Cn} {R H : Hp} (S : Same R H) : ∀ {v : V} {d : D} {p : PyData}, Fz c R v d → d.py = some p → Dp c.K H v p
  | _, _, _, .non, e => by cases (show some PyData.none = _ from e); exact .non
  | _, _, _, .bl b, e => by cases (show some (PyData.bool b) = _ from e); exact .bl b
  | _, _, _, .int i, e => by cases (show some (PyData.int i) = _ from e); exact .int i
  | _, _, _, .str x _, e => by cases (show some (PyData.str x) = _ from e); exact .str x
  | _, .tup ds, _, .tup h _ q, e => by
    simp only [D.py] at e
    obtain ⟨ps, e1, rfl⟩ := Option.map_eq_some_iff.mp e
    exact .tup (S.le.sqT h) (FzA.dp S q e1)
  | _, .lst ds, _, .lst h _ q, e => by
    simp only [D.py] at e
    obtain ⟨ps, e1, rfl⟩ := Option.map_eq_some_iff.mp e
    exact .lst (SqL.of (S _ _ h)) (FzA.dp S q e1)
  | _, _, _, .dk _ _ _, e => by simp [D.py] at e
  | _, _, _, .ins _ _, e => by simp [D.py] at e
  | _, _, _, .deck, e => by simp [D.py] at e
theorem FzA.dp {c : Cn} {R H : Hp} (S : Same R H) : ∀ {v : List V} {d : List D} {p : List PyData}, FzA c R v d → D.pyA d = some p → DpAll c.K H v p
  | _, _, _, .nil, e => by simp only [D.pyA] at e; cases e; exact .nil
  | _, _, _, .cons h q, e => by
    simp only [D.pyA] at e
    split at e
    · rename_i p ps e1 e2; cases e; exact .cons (Fz.dp S h e1) (FzA.dp S q e2)
    · cases e
end
/-- == of data: texts and scalars first -/
def D.eqb : D → D → Option Bool
  | .str x, .str y => some (decide (x = y))
  | .int i, .int j => some (decide (i = j))
  | x, y => match x.py, y.py with
    | some p, some q => if SeqAt.shaped p = true ∧ SeqAt.shaped q = true then some (PyData.eqv p q) else none
    | _, _ => none
def fEq (x y : D) : Option D := (D.eqb x y).map .bl
def fNe (x y : D) : Option D := (D.eqb x y).map fun b => .bl (!b)
theorem eqb_cases {x y : D} {b : Bool} (h : D.eqb x y = some b) : (∃ s t, x = .str s ∧ y = .str t ∧ b = decide (s = t)) ∨ (∃ i j, x = .int i ∧ y = .int j ∧ b = decide (i = j)) ∨
    ∃ p q, x.py = some p ∧ y.py = some q ∧ SeqAt.shaped p = true ∧ SeqAt.shaped q = true ∧ b = PyData.eqv p q := by
  unfold D.eqb at h
  split at h
  · cases h; exact .inl ⟨_, _, rfl, rfl, rfl⟩
  · cases h; exact .inr (.inl ⟨_, _, rfl, rfl, rfl⟩)
  · split at h
    · rename_i p q e1 e2
      obtain ⟨hs, e⟩ := ite_some h
      cases e
      exact .inr (.inr ⟨p, q, e1, e2, hs.1, hs.2, rfl⟩)
    · cases h
theorem o2Eq (hK : X.K = Γ.c.K) : Op2 Γ (fun x y H Q => rEq x y H Q ∨ rEqD X.K x y H Q) fEq := fun R H x y dx dy d e S z1 z2 => by
  obtain ⟨b, e1, rfl⟩ := Option.map_eq_some_iff.mp e
  rcases eqb_cases e1 with ⟨s, t, rfl, rfl, rfl⟩ | ⟨i, j, rfl, rfl, rfl⟩ | ⟨p, q, ep, eq, h1, h2, rfl⟩
  · obtain ⟨rfl, _⟩ := z1.str_inv
    obtain ⟨rfl, _⟩ := z2.str_inv
    refine gives_c (.bl _) fun Q q => .inl ⟨rfl, ?_⟩
    rw [show decide (V.str s = V.str t) = decide (s = t) by simp]; exact q
  · cases z1.int_inv
    cases z2.int_inv
    refine gives_c (.bl _) fun Q q => .inl ⟨rfl, ?_⟩
    rw [show decide (V.int i = V.int j) = decide (i = j) by simp]; exact q
  · exact gives_c (.bl _) fun Q qq => .inr ⟨p, q, hK ▸ z1.dp S ep, hK ▸ z2.dp S eq, h1, h2, qq⟩
theorem o2Ne (hK : X.K = Γ.c.K) : Op2 Γ (fun x y H Q => rNe x y H Q ∨ rNeD X.K x y H Q) fNe := fun R H x y dx dy d e S z1 z2 => by
  obtain ⟨b, e1, rfl⟩ := Option.map_eq_some_iff.mp e
  rcases eqb_cases e1 with ⟨s, t, rfl, rfl, rfl⟩ | ⟨i, j, rfl, rfl, rfl⟩ | ⟨p, q, ep, eq, h1, h2, rfl⟩
  · obtain ⟨rfl, _⟩ := z1.str_inv
    obtain ⟨rfl, _⟩ := z2.str_inv
    refine gives_c (.bl _) fun Q q => .inl ⟨rfl, ?_⟩
    rw [show decide (V.str s = V.str t) = decide (s = t) by simp]; exact q
  · cases z1.int_inv
    cases z2.int_inv
    refine gives_c (.bl _) fun Q q => .inl ⟨rfl, ?_⟩
    rw [show decide (V.int i = V.int j) = decide (i = j) by simp]; exact q
  · exact gives_c (.bl _) fun Q qq => .inr ⟨p, q, hK ▸ z1.dp S ep, hK ▸ z2.dp S eq, h1, h2, qq⟩
/-! x in xs, x of no parts -/
def D.flt : D → Bool
  | .non => true
  | .bl _ => true
  | .int _ => true
  | .str _ => true
  | _ => false
def eqF : D → D → Bool
  | .non, .non => true
  | .bl a, .bl b => a == b
  | .bl a, .int b => (if a then 1 else 0) == b
  | .int a, .bl b => a == (if b then 1 else 0)
  | .int a, .int b => a == b
  | .str a, .str b => a == b
  | _, _ => false
theorem Fz.flt {c : Cn} {R : Hp} {v : V} {d : D} (h : Fz c R v d) : flatV v = D.flt d := by cases h <;> rfl
theorem Fz.eqF {c : Cn} {R : Hp} {v u : V} {d e : D} (h : Fz c R v d) (k : Fz c R u e) : eqV v u = Sh.eqF d e := by cases h <;> cases k <;> rfl
theorem FzA.flt {c : Cn} {R : Hp} : ∀ {v : List V} {d : List D}, FzA c R v d → v.all flatV = d.all D.flt
  | _, _, .nil => rfl
  | _, _, .cons h q => by rw [List.all_cons, List.all_cons, h.flt, FzA.flt q]
theorem FzA.inF {c : Cn} {R : Hp} {u : V} {e : D} (k : Fz c R u e) : ∀ {v : List V} {d : List D}, FzA c R v d → inV u v = d.any fun y => Sh.eqF y e
  | _, _, .nil => rfl
  | _, _, .cons h q => by
    have := FzA.inF k q
    unfold inV at this ⊢
    rw [List.any_cons, List.any_cons, h.eqF k, this]
def inD (x : D) : D → Option Bool
  | .tup ds => if x.flt = true ∧ ds.all D.flt = true then some (ds.any fun y => eqF y x) else none
  | .lst ds => if x.flt = true ∧ ds.all D.flt = true then some (ds.any fun y => eqF y x) else none
  | .str z => match x with
    | .str y => some (!(Builtin.Str.occurrences z y 0 z.length 1).isEmpty)
    | _ => none
  | _ => none
def fIn (x y : D) : Option D := (inD x y).map .bl
def fNotIn (x y : D) : Option D := (inD x y).map fun b => .bl (!b)
theorem inD_seq {x : D} {ds : List D} {b : Bool} (h : (if x.flt = true ∧ ds.all D.flt = true then some (ds.any fun y => eqF y x) else none) = some b) : x.flt = true ∧ ds.all D.flt = true ∧ b = ds.any fun y => eqF y x := by
  obtain ⟨h, e⟩ := ite_some h
  exact ⟨h.1, h.2, (Option.some.inj e).symm⟩
theorem o2In (hK : X.K = Γ.c.K) : Op2 Γ (fun x y H Q => rIn X.K false x y H Q ∨ ∃ i j, x = .str i ∧ y = .str j ∧ Q (.bl (!(Builtin.Str.occurrences j i 0 j.length 1).isEmpty)) H) fIn := fun R H x y dx dy d e S z1 z2 => by
  obtain ⟨b, e1, rfl⟩ := Option.map_eq_some_iff.mp e
  cases z2 with
  | tup h l q =>
    obtain ⟨f1, f2, rfl⟩ := inD_seq e1
    refine gives_c (.bl _) fun Q qq => .inl ⟨_, _, rfl, .inr (hK ▸ S.le.sqT h), by rw [z1.flt]; exact f1, by rw [q.flt]; exact f2, ?_⟩
    rw [if_neg (by decide), q.inF z1]; exact qq
  | lst h l q =>
    obtain ⟨f1, f2, rfl⟩ := inD_seq e1
    refine gives_c (.bl _) fun Q qq => .inl ⟨_, _, rfl, .inl (SqL.of (S _ _ h)), by rw [z1.flt]; exact f1, by rw [q.flt]; exact f2, ?_⟩
    rw [if_neg (by decide), q.inF z1]; exact qq
  | str j hj =>
    cases z1 with
    | str i hi =>
      have e1' : some (!(Builtin.Str.occurrences j i 0 j.length 1).isEmpty) = some b := e1
      cases e1'
      exact gives_c (.bl _) fun Q qq => .inr ⟨i, j, rfl, rfl, qq⟩
    | _ => cases e1
  | _ => cases e1
theorem o2NotIn (hK : X.K = Γ.c.K) : Op2 Γ (fun x y H Q => rIn X.K true x y H Q ∨ ∃ i j, x = .str i ∧ y = .str j ∧ Q (.bl (!(!(Builtin.Str.occurrences j i 0 j.length 1).isEmpty))) H) fNotIn := fun R H x y dx dy d e S z1 z2 => by
  obtain ⟨b, e1, rfl⟩ := Option.map_eq_some_iff.mp e
  cases z2 with
  | tup h l q =>
    obtain ⟨f1, f2, rfl⟩ := inD_seq e1
    refine gives_c (.bl _) fun Q qq => .inl ⟨_, _, rfl, .inr (hK ▸ S.le.sqT h), by rw [z1.flt]; exact f1, by rw [q.flt]; exact f2, ?_⟩
    rw [if_pos rfl, q.inF z1]; exact qq
  | lst h l q =>
    obtain ⟨f1, f2, rfl⟩ := inD_seq e1
    refine gives_c (.bl _) fun Q qq => .inl ⟨_, _, rfl, .inl (SqL.of (S _ _ h)), by rw [z1.flt]; exact f1, by rw [q.flt]; exact f2, ?_⟩
    rw [if_pos rfl, q.inF z1]; exact qq
  | str j hj =>
    cases z1 with
    | str i hi =>
      have e1' : some (!(Builtin.Str.occurrences j i 0 j.length 1).isEmpty) = some b := e1
      cases e1'
      exact gives_c (.bl _) fun Q qq => .inr ⟨i, j, rfl, rfl, qq⟩
    | _ => cases e1
  | _ => cases e1
end
section
variable {X : Cx} {Γ : Gm} {a b : Expr} {ta tb : Ed} {pos : Pos}
theorem d_lt (ha : DE X Γ a ta) (hb : DE X Γ b tb) : DE X Γ (.Compare a [.Lt] [b] pos) (e2 fLt ta tb) := d_cmp op_lt o2Lt ha hb (nomark _)
theorem d_le (ha : DE X Γ a ta) (hb : DE X Γ b tb) : DE X Γ (.Compare a [.LtE] [b] pos) (e2 fLe ta tb) := d_cmp op_le o2Le ha hb (nomark _)
theorem d_gt (ha : DE X Γ a ta) (hb : DE X Γ b tb) : DE X Γ (.Compare a [.Gt] [b] pos) (e2 fGt ta tb) := d_cmp op_gt o2Gt ha hb (nomark _)
theorem d_ge (ha : DE X Γ a ta) (hb : DE X Γ b tb) : DE X Γ (.Compare a [.GtE] [b] pos) (e2 fGe ta tb) := d_cmp op_ge o2Ge ha hb (nomark _)
theorem d_is (ha : DE X Γ a ta) (hb : DE X Γ b tb) : DE X Γ (.Compare a [.Is] [b] pos) (e2 fIs ta tb) := d_cmp op_isN o2Is ha hb (nomark _)
theorem d_isnot (ha : DE X Γ a ta) (hb : DE X Γ b tb) : DE X Γ (.Compare a [.IsNot] [b] pos) (e2 fIsNot ta tb) := d_cmp op_notN o2IsNot ha hb (nomark _)
theorem d_eq (hu : X.A.units + 64 < cLine) (ha : DE X Γ a ta) (hb : DE X Γ b tb) (hK : X.K = Γ.c.K := by rfl) : DE X Γ (.Compare a [.Eq] [b] pos) (e2 fEq ta tb) := d_cmp (op_eq.or (op_eqD hu)) (o2Eq hK) ha hb (nomark _)
theorem d_ne (hu : X.A.units + 64 < cLine) (ha : DE X Γ a ta) (hb : DE X Γ b tb) (hK : X.K = Γ.c.K := by rfl) : DE X Γ (.Compare a [.NotEq] [b] pos) (e2 fNe ta tb) := d_cmp (op_ne.or (op_neD hu)) (o2Ne hK) ha hb (nomark _)
theorem d_in (ha : DE X Γ a ta) (hb : DE X Γ b tb) (hm : behindInMarks .In b = false := by rfl) (hK : X.K = Γ.c.K := by rfl) : DE X Γ (.Compare a [.In] [b] pos) (e2 fIn ta tb) := d_cmp (op_in_seq.or op_in_str) (o2In hK) ha hb hm
theorem d_notin (ha : DE X Γ a ta) (hb : DE X Γ b tb) (hm : behindInMarks .NotIn b = false := by rfl) (hK : X.K = Γ.c.K := by rfl) : DE X Γ (.Compare a [.NotIn] [b] pos) (e2 fNotIn ta tb) := d_cmp (op_notIn_seq.or op_notin_str) (o2NotIn hK) ha hb hm
end
end Sh

set_option Elab.async false
set_option linter.all false
set_option maxRecDepth 100000
namespace Sh
open PySem L2 Nf
/-! tests -/
def fTr : D → Option Bool
  | .non => some false
  | .bl b => some b
  | .int i => some (i != 0)
  | .str x => some ((x.length : Int) != 0)
  | .tup ds => some (!ds.isEmpty)
  | .lst ds => some (!ds.isEmpty)
  | _ => none
def trB (t : Ed) : Td := fun ρ => Mb (t ρ) fun d => Mo (fTr d)
def tNt (t : Td) : Td := fun ρ => Mb (t ρ) fun b => Mp (!b)
def tAn (t u : Td) : Td := fun ρ => Mb (t ρ) fun b => if b = true then u ρ else Mp false
def tOr' (t u : Td) : Td := fun ρ => Mb (t ρ) fun b => if b = true then Mp true else u ρ
def vAn (t u : Ed) : Ed := fun ρ => Mb (t ρ) fun x => Mb (Mo (fTr x)) fun b => if b = true then u ρ else Mp x
def vOr (t u : Ed) : Ed := fun ρ => Mb (t ρ) fun x => Mb (Mo (fTr x)) fun b => if b = true then Mp x else u ρ
def vIf (c : Td) (t u : Ed) : Ed := fun ρ => Mb (c ρ) fun b => if b = true then t ρ else u ρ
def fNot (d : D) : Option D := (fTr d).map fun b => .bl (!b)
theorem isEmpty_fz {c : Cn} {R : Hp} {xs : List V} {ds : List D} (h : FzA c R xs ds) : xs.isEmpty = ds.isEmpty := by cases h <;> rfl
theorem Fz.tru {c : Cn} {R H : Hp} {v : V} {d : D} {b : Bool} (S : Same R H) (h : Fz c R v d) (e : fTr d = some b) : TruV c.K v H b := by
  cases h with
  | non => cases e; rfl
  | bl x => cases e; rfl
  | int i => cases e; rfl
  | str x z => cases e; exact ⟨z, rfl⟩
  | tup h _ q => cases e; exact .inr (.inl ⟨_, S.le.sqT h, by rw [isEmpty_fz q]⟩)
  | lst h _ q => cases e; exact .inl ⟨_, SqL.of (S _ _ h), by rw [isEmpty_fz q]⟩
  | dk h _ q => cases e
  | ins _ _ => cases e
  | deck => cases e
section
variable {X : Cx} {Γ : Gm} {a b : Expr} {ta tb : Ed} {pos : Pos} {rest : List Expr}
theorem dt_tr (ha : DE X Γ a ta) (hK : X.K = Γ.c.K := by rfl) (he : ∀ whole, isTrue a X.env whole = (do let v ← whole; standAt a.pos; holding [v] (truthy v)) := by intro _; rfl) : DT X Γ a (trB ta) :=
  ⟨PT.wk (pt_truth ha.p he) fun σ H Q ⟨R, ρ, n, r, n', rp, e, q⟩ => by
    obtain ⟨x, m, e1, e⟩ := Mb_some e
    obtain ⟨ee, rfl⟩ := Mo_some e
    exact ⟨R, ρ, n, x, _, rp, e1, fun v R1 H1 rp1 S1 z1 => ⟨r, hK ▸ z1.tru rp1.hp.same ee, q R1 H1 rp1 S1⟩⟩⟩
/-- the answers are True and False -/
def Bf (f : D → D → Option D) : Prop := ∀ x y d, f x y = some d → ∃ k, d = .bl k
theorem dt_cmp {op : CmpOp} {r : R2} {f : D → D → Option D} (ho : OpR X (compareOp op) r) (hf : Op2 Γ r f) (hb' : Bf f) (ha : DE X Γ a ta) (hb : DE X Γ b tb) (hm : behindInMarks op b = false) : DT X Γ (.Compare a [op] [b] pos) (trB (e2 f ta tb)) :=
  ⟨PT.wk (pt_cmpR ho ha.p hb.p hm) fun σ H Q ⟨R, ρ, n, r, n', rp, e, q⟩ => by
    obtain ⟨d, m0, e0, e⟩ := Mb_some e
    obtain ⟨er, rfl⟩ := Mo_some e
    obtain ⟨x, m, e1, e⟩ := Mb_some e0
    obtain ⟨y, m2, e2, e⟩ := Mb_some e
    obtain ⟨ee, rfl⟩ := Mo_some e
    obtain ⟨k, rfl⟩ := hb' _ _ _ ee
    cases er
    refine ⟨R, ρ, n, x, m, rp, e1, fun v R1 H1 rp1 S1 z1 => ⟨R1, ρ, m, y, _, rp1, e2, fun u R2 H2 rp2 S2 z2 => ?_⟩⟩
    exact hf R2 H2 v u x y _ ee rp2.hp.same (z1.mono S2.le) z2 σ ρ _ _ rp2 fun w R3 H3 rp3 S3 z3 => ⟨_, z3.bl_inv, q R3 H3 rp3 ((S1.trans S2).trans S3)⟩⟩
theorem bf_I {p : Int → Int → Bool} : Bf (fI p) := fun x y d h => by
  cases x <;> cases y <;> first | (cases h; done) | (cases h; exact ⟨_, rfl⟩)
theorem bf_is : Bf fIs := fun x y d h => by
  cases y <;> cases x <;> first | (cases h; done) | (cases h; exact ⟨_, rfl⟩)
theorem bf_isnot : Bf fIsNot := fun x y d h => by
  cases y <;> cases x <;> first | (cases h; done) | (cases h; exact ⟨_, rfl⟩)
theorem bf_map {g : D → D → Option Bool} {k : Bool → Bool} : Bf fun x y => (g x y).map fun b => .bl (k b) := fun x y d h => by
  obtain ⟨b, _, rfl⟩ := Option.map_eq_some_iff.mp h
  exact ⟨_, rfl⟩
theorem dt_lt (ha : DE X Γ a ta) (hb : DE X Γ b tb) : DT X Γ (.Compare a [.Lt] [b] pos) (trB (e2 fLt ta tb)) := dt_cmp op_lt o2Lt bf_I ha hb (nomark _)
theorem dt_le (ha : DE X Γ a ta) (hb : DE X Γ b tb) : DT X Γ (.Compare a [.LtE] [b] pos) (trB (e2 fLe ta tb)) := dt_cmp op_le o2Le bf_I ha hb (nomark _)
theorem dt_gt (ha : DE X Γ a ta) (hb : DE X Γ b tb) : DT X Γ (.Compare a [.Gt] [b] pos) (trB (e2 fGt ta tb)) := dt_cmp op_gt o2Gt bf_I ha hb (nomark _)
theorem dt_ge (ha : DE X Γ a ta) (hb : DE X Γ b tb) : DT X Γ (.Compare a [.GtE] [b] pos) (trB (e2 fGe ta tb)) := dt_cmp op_ge o2Ge bf_I ha hb (nomark _)
theorem dt_is (ha : DE X Γ a ta) (hb : DE X Γ b tb) : DT X Γ (.Compare a [.Is] [b] pos) (trB (e2 fIs ta tb)) := dt_cmp op_isN o2Is bf_is ha hb (nomark _)
theorem dt_isnot (ha : DE X Γ a ta) (hb : DE X Γ b tb) : DT X Γ (.Compare a [.IsNot] [b] pos) (trB (e2 fIsNot ta tb)) := dt_cmp op_notN o2IsNot bf_isnot ha hb (nomark _)
theorem dt_eq (hu : X.A.units + 64 < cLine) (ha : DE X Γ a ta) (hb : DE X Γ b tb) (hK : X.K = Γ.c.K := by rfl) : DT X Γ (.Compare a [.Eq] [b] pos) (trB (e2 fEq ta tb)) := dt_cmp (op_eq.or (op_eqD hu)) (o2Eq hK) (bf_map (k := id)) ha hb (nomark _)
theorem dt_ne (hu : X.A.units + 64 < cLine) (ha : DE X Γ a ta) (hb : DE X Γ b tb) (hK : X.K = Γ.c.K := by rfl) : DT X Γ (.Compare a [.NotEq] [b] pos) (trB (e2 fNe ta tb)) := dt_cmp (op_ne.or (op_neD hu)) (o2Ne hK) bf_map ha hb (nomark _)
theorem dt_in (ha : DE X Γ a ta) (hb : DE X Γ b tb) (hm : behindInMarks .In b = false := by rfl) (hK : X.K = Γ.c.K := by rfl) : DT X Γ (.Compare a [.In] [b] pos) (trB (e2 fIn ta tb)) := dt_cmp (op_in_seq.or op_in_str) (o2In hK) (bf_map (k := id)) ha hb hm
theorem dt_notin (ha : DE X Γ a ta) (hb : DE X Γ b tb) (hm : behindInMarks .NotIn b = false := by rfl) (hK : X.K = Γ.c.K := by rfl) : DT X Γ (.Compare a [.NotIn] [b] pos) (trB (e2 fNotIn ta tb)) := dt_cmp (op_notIn_seq.or op_notin_str) (o2NotIn hK) bf_map ha hb hm
variable {pa pb : Td}
theorem dt_not (h : DT X Γ a pa) : DT X Γ (.UnaryOp .Not a pos) (tNt pa) := ⟨PT.wk (pt_not h.p) fun σ H Q ⟨R, ρ, n, r, n', rp, e, q⟩ => by
  obtain ⟨x, m, e1, e⟩ := Mb_some e
  cases e
  exact ⟨R, ρ, n, x, _, rp, e1, q⟩⟩
theorem dw_pt (h : DW X Γ a pa) : DT X Γ a pa := ⟨h.p.pt⟩
theorem dw_and1 (h : DT X Γ a pa) : DW X Γ (.BoolOp .And [a] pos) pa := ⟨pw_and1 h.p⟩
theorem dw_or1 (h : DT X Γ a pa) : DW X Γ (.BoolOp .Or [a] pos) pa := ⟨pw_or1 h.p⟩
theorem dw_and (h : DT X Γ a pa) (k : DW X Γ (.BoolOp .And (b :: rest) pos) pb) : DW X Γ (.BoolOp .And (a :: b :: rest) pos) (tAn pa pb) := ⟨PW.wk (pw_and h.p k.p) fun σ H Q ⟨R, ρ, n, r, n', rp, e, q⟩ => by
  obtain ⟨x, m, e1, e⟩ := Mb_some e
  cases x with
  | true => exact ⟨R, ρ, n, true, m, rp, e1, fun R1 H1 rp1 S1 => iteT ⟨R1, ρ, m, r, n', rp1, e, fun R2 H2 rp2 S2 => q R2 H2 rp2 (S1.trans S2)⟩⟩
  | false => cases e; exact ⟨R, ρ, n, false, _, rp, e1, fun R1 H1 rp1 S1 => iteF (q R1 H1 rp1 S1)⟩⟩
theorem dw_or (h : DT X Γ a pa) (k : DW X Γ (.BoolOp .Or (b :: rest) pos) pb) : DW X Γ (.BoolOp .Or (a :: b :: rest) pos) (tOr' pa pb) := ⟨PW.wk (pw_or h.p k.p) fun σ H Q ⟨R, ρ, n, r, n', rp, e, q⟩ => by
  obtain ⟨x, m, e1, e⟩ := Mb_some e
  cases x with
  | false => exact ⟨R, ρ, n, false, m, rp, e1, fun R1 H1 rp1 S1 => iteF ⟨R1, ρ, m, r, n', rp1, e, fun R2 H2 rp2 S2 => q R2 H2 rp2 (S1.trans S2)⟩⟩
  | true => cases e; exact ⟨R, ρ, n, true, _, rp, e1, fun R1 H1 rp1 S1 => iteT (q R1 H1 rp1 S1)⟩⟩
theorem d_one {op} (h : DE X Γ a ta) : DE X Γ (.BoolOp op [a] pos) ta := ⟨pe_one h.p⟩
theorem d_and (h : DE X Γ a ta) (k : DE X Γ (.BoolOp .And (b :: rest) pos) tb) (hK : X.K = Γ.c.K := by rfl) : DE X Γ (.BoolOp .And (a :: b :: rest) pos) (vAn ta tb) := ⟨PE.wk (pe_andT h.p k.p) fun σ H Q ⟨R, ρ, n, r, n', rp, e, q⟩ => by
  obtain ⟨x, m, e1, e⟩ := Mb_some e
  obtain ⟨c, m2, e2, e⟩ := Mb_some e
  obtain ⟨ee, rfl⟩ := Mo_some e2
  refine ⟨R, ρ, n, x, _, rp, e1, fun v R1 H1 rp1 S1 z1 => ⟨c, hK ▸ z1.tru rp1.hp.same ee, ?_⟩⟩
  cases c with
  | true => exact iteT ⟨R1, ρ, _, r, n', rp1, e, fun u R2 H2 rp2 S2 z2 => q u R2 H2 rp2 (S1.trans S2) z2⟩
  | false => cases e; exact iteF (q v R1 H1 rp1 S1 z1)⟩
theorem d_or (h : DE X Γ a ta) (k : DE X Γ (.BoolOp .Or (b :: rest) pos) tb) (hK : X.K = Γ.c.K := by rfl) : DE X Γ (.BoolOp .Or (a :: b :: rest) pos) (vOr ta tb) := ⟨PE.wk (pe_orT h.p k.p) fun σ H Q ⟨R, ρ, n, r, n', rp, e, q⟩ => by
  obtain ⟨x, m, e1, e⟩ := Mb_some e
  obtain ⟨c, m2, e2, e⟩ := Mb_some e
  obtain ⟨ee, rfl⟩ := Mo_some e2
  refine ⟨R, ρ, n, x, _, rp, e1, fun v R1 H1 rp1 S1 z1 => ⟨c, hK ▸ z1.tru rp1.hp.same ee, ?_⟩⟩
  cases c with
  | false => exact iteF ⟨R1, ρ, _, r, n', rp1, e, fun u R2 H2 rp2 S2 z2 => q u R2 H2 rp2 (S1.trans S2) z2⟩
  | true => cases e; exact iteT (q v R1 H1 rp1 S1 z1)⟩
theorem d_not (h : DE X Γ a ta) (hK : X.K = Γ.c.K := by rfl) : DE X Γ (.UnaryOp .Not a pos) (e1 fNot ta) := ⟨PE.wk (pe_notT h.p) fun σ H Q ⟨R, ρ, n, r, n', rp, e, q⟩ => by
  obtain ⟨x, m, e1, e⟩ := Mb_some e
  obtain ⟨ee, rfl⟩ := Mo_some e
  obtain ⟨c, ec, rfl⟩ := Option.map_eq_some_iff.mp ee
  exact ⟨R, ρ, n, x, _, rp, e1, fun v R1 H1 rp1 S1 z1 => ⟨c, hK ▸ z1.tru rp1.hp.same ec, q _ R1 H1 rp1 S1 (.bl _)⟩⟩⟩
theorem d_if {c : Expr} (hc : DT X Γ c pa) (h : DE X Γ a ta) (k : DE X Γ b tb) : DE X Γ (.IfExp c a b pos) (vIf pa ta tb) := ⟨PE.wk (pe_ifExp hc.p h.p k.p) fun σ H Q ⟨R, ρ, n, r, n', rp, e, q⟩ => by
  obtain ⟨x, m, e1, e⟩ := Mb_some e
  cases x with
  | true => exact ⟨R, ρ, n, true, m, rp, e1, fun R1 H1 rp1 S1 => iteT ⟨R1, ρ, m, r, n', rp1, e, fun u R2 H2 rp2 S2 z2 => q u R2 H2 rp2 (S1.trans S2) z2⟩⟩
  | false => exact ⟨R, ρ, n, false, m, rp, e1, fun R1 H1 rp1 S1 => iteF ⟨R1, ρ, m, r, n', rp1, e, fun u R2 H2 rp2 S2 z2 => q u R2 H2 rp2 (S1.trans S2) z2⟩⟩⟩
/-! a < b < c -/
def vCh (f g : D → D → Option D) (ta tb tc : Ed) : Ed := fun ρ => Mb (ta ρ) fun x => Mb (tb ρ) fun y => Mb (Mo (f x y)) fun z => if fTr z = some true then Mb (tc ρ) fun w => Mo (g y w) else Mp (.bl false)
theorem d_chain {op op' : CmpOp} {r r' : R2} {f g : D → D → Option D} {c : Expr} {tc : Ed} (ho : OpR X (compareOp op) r) (hf : Op2 Γ r f) (bf : Bf f) (ho' : OpR X (compareOp op') r') (hg : Op2 Γ r' g) (ha : DE X Γ a ta) (hb : DE X Γ b tb) (hc : DE X Γ c tc)
    (hm : lastMarks [op, op'] [b, c] = false := by with_unfolding_all rfl) : DE X Γ (.Compare a [op, op'] [b, c] pos) (vCh f g ta tb tc) := ⟨PE.wk (pe_chain ho ho' ha.p hb.p hc.p hm) fun σ H Q ⟨R, ρ, n, r, n', rp, e, q⟩ => by
  obtain ⟨x, m, e1, e⟩ := Mb_some e
  obtain ⟨y, m2, e2, e⟩ := Mb_some e
  obtain ⟨z, m3, e3, e⟩ := Mb_some e
  obtain ⟨ee, rfl⟩ := Mo_some e3
  obtain ⟨k, rfl⟩ := bf _ _ _ ee
  refine ⟨R, ρ, n, x, m, rp, e1, fun v R1 H1 rp1 S1 z1 => ⟨R1, ρ, m, y, _, rp1, e2, fun u R2 H2 rp2 S2 z2 => ?_⟩⟩
  refine hf R2 H2 v u x y _ ee rp2.hp.same (z1.mono S2.le) z2 σ ρ _ _ rp2 fun w R3 H3 rp3 S3 z3 => ⟨k, z3.bl_inv, ?_⟩
  cases k with
  | true =>
    obtain ⟨w', m4, e4, e⟩ := Mb_some e
    obtain ⟨e5, rfl⟩ := Mo_some e
    refine iteT ⟨R3, ρ, _, w', _, rp3, e4, fun u4 R4 H4 rp4 S4 z4 => ?_⟩
    exact hg R4 H4 u u4 y w' r e5 rp4.hp.same ((z2.mono S3.le).mono S4.le) z4 σ ρ _ _ rp4 fun w5 R5 H5 rp5 S5 z5 => q w5 R5 H5 rp5 ((((S1.trans S2).trans S3).trans S4).trans S5) z5
  | false => cases e; exact iteF (q _ R3 H3 rp3 ((S1.trans S2).trans S3) (.bl _))⟩
theorem dt_chain {op op' : CmpOp} {r r' : R2} {f g : D → D → Option D} {c : Expr} {tc : Ed} (ho : OpR X (compareOp op) r) (hf : Op2 Γ r f) (bf : Bf f) (ho' : OpR X (compareOp op') r') (hg : Op2 Γ r' g) (bg : Bf g) (ha : DE X Γ a ta) (hb : DE X Γ b tb) (hc : DE X Γ c tc)
    (hm : lastMarks [op, op'] [b, c] = false := by with_unfolding_all rfl) : DT X Γ (.Compare a [op, op'] [b, c] pos) (trB (vCh f g ta tb tc)) := ⟨PT.wk (pt_chain ho ho' ha.p hb.p hc.p hm) fun σ H Q ⟨R, ρ, n, r, n', rp, e, q⟩ => by
  obtain ⟨d, m0, e0, e⟩ := Mb_some e
  obtain ⟨er, rfl⟩ := Mo_some e
  obtain ⟨x, m, e1, e⟩ := Mb_some e0
  obtain ⟨y, m2, e2, e⟩ := Mb_some e
  obtain ⟨z, m3, e3, e⟩ := Mb_some e
  obtain ⟨ee, rfl⟩ := Mo_some e3
  obtain ⟨k, rfl⟩ := bf _ _ _ ee
  refine ⟨R, ρ, n, x, m, rp, e1, fun v R1 H1 rp1 S1 z1 => ⟨R1, ρ, m, y, _, rp1, e2, fun u R2 H2 rp2 S2 z2 => ?_⟩⟩
  refine hf R2 H2 v u x y _ ee rp2.hp.same (z1.mono S2.le) z2 σ ρ _ _ rp2 fun w R3 H3 rp3 S3 z3 => ⟨k, z3.bl_inv, ?_⟩
  cases k with
  | true =>
    obtain ⟨w', m4, e4, e⟩ := Mb_some e
    obtain ⟨e5, rfl⟩ := Mo_some e
    obtain ⟨k2, rfl⟩ := bg _ _ _ e5
    cases er
    refine iteT ⟨R3, ρ, _, w', _, rp3, e4, fun u4 R4 H4 rp4 S4 z4 => ?_⟩
    exact hg R4 H4 u u4 y w' _ e5 rp4.hp.same ((z2.mono S3.le).mono S4.le) z4 σ ρ _ _ rp4 fun w5 R5 H5 rp5 S5 z5 => ⟨_, z5.bl_inv, q R5 H5 rp5 ((((S1.trans S2).trans S3).trans S4).trans S5)⟩
  | false => cases e; cases er; exact iteF ⟨false, rfl, q R3 H3 rp3 ((S1.trans S2).trans S3)⟩⟩
end
/-! displays -/
section
variable {X : Cx} {Γ : Gm} {es : List Expr} {t : Ad} {pos : Pos}
def eTup (t : Ad) : Ed := fun ρ => Mb (t ρ) fun ds => Mp (.tup ds)
def eLst (t : Ad) : Ed := fun ρ => Mb (t ρ) fun ds => Mp (.lst ds)
def eTupS (t : Ad) : Ed := fun ρ => Mb (t ρ) fun ds => Mo (szl ds.length (.tup ds))
theorem d_tup {k : Nat} {x1} (h : DA X Γ es t) (hl : ∀ ρ n r n', t ρ n = some (r, n') → r.length = k) (hk : k ≤ sizeLine := by decide) : DE X Γ (.Tuple es x1 pos) (eTup t) := ⟨PE.wk (pe_tup h.p) fun σ H Q ⟨R, ρ, n, r, n', rp, e, q⟩ => by
  obtain ⟨ds, m, e1, e⟩ := Mb_some e
  cases e
  refine ⟨R, ρ, n, ds, _, rp, e1, fun vs R1 H1 rp1 S1 z1 => ?_⟩
  have hz : vs.length ≤ sizeLine := by rw [z1.len, hl _ _ _ _ e1]; exact hk
  exact ⟨hz, fun p hp => q _ _ _ (rp1.lay hp) (S1.trans (rp1.go hp)) (.tup (SqT.of upd_same) hz (z1.mono (rp1.go hp).le))⟩⟩
theorem d_tupS {x1} (h : DA X Γ es t) : DE X Γ (.Tuple es x1 pos) (eTupS t) := ⟨PE.wk (pe_tup h.p) fun σ H Q ⟨R, ρ, n, r, n', rp, e, q⟩ => by
  obtain ⟨ds, m, e1, e⟩ := Mb_some e
  obtain ⟨ee, rfl⟩ := Mo_some e
  obtain ⟨hz, rfl⟩ := szl_some ee
  refine ⟨R, ρ, n, ds, _, rp, e1, fun vs R1 H1 rp1 S1 z1 => ?_⟩
  rw [← z1.len] at hz
  exact ⟨hz, fun p hp => q _ _ _ (rp1.lay hp) (S1.trans (rp1.go hp)) (.tup (SqT.of upd_same) hz (z1.mono (rp1.go hp).le))⟩⟩
theorem d_lst {k : Nat} (h : DA X Γ es t) (hl : ∀ ρ n r n', t ρ n = some (r, n') → r.length = k) (hk : k ≤ sizeLine := by decide) : DE X Γ (.List es pos) (eLst t) := ⟨PE.wk (pe_lst h.p) fun σ H Q ⟨R, ρ, n, r, n', rp, e, q⟩ => by
  obtain ⟨ds, m, e1, e⟩ := Mb_some e
  cases e
  refine ⟨R, ρ, n, ds, _, rp, e1, fun vs R1 H1 rp1 S1 z1 => ?_⟩
  have hz : vs.length ≤ sizeLine := by rw [z1.len, hl _ _ _ _ e1]; exact hk
  exact ⟨hz, fun p hp => q _ _ _ (rp1.lay hp) (S1.trans (rp1.go hp)) (.lst upd_same hz (z1.mono (rp1.go hp).le))⟩⟩
/-- *e, .. -/
def aStar (t : Ed) (u : Ad) : Ad := fun ρ => Mb (t ρ) fun x => Mb (u ρ) fun ys => match x with
  | .tup xs => Mp (xs ++ ys)
  | .lst xs => Mp (xs ++ ys)
  | _ => Mo none
theorem da_star {e : Expr} {p : Pos} {t : Ed} {u : Ad} (he : DE X Γ e t) (hr : DA X Γ es u) (hs : starEach (.Starred e p :: es) X.env = (true, eval e X.env) :: starEach es X.env := by rfl) (hK : X.K = Γ.c.K := by rfl) : DA X Γ (.Starred e p :: es) (aStar t u) :=
  ⟨PA.wk (StX.pa_star he.p hr.p hs) fun σ H Q ⟨R, ρ, n, r, n', rp, e, q⟩ => by
    obtain ⟨x, m, e1, e⟩ := Mb_some e
    obtain ⟨ys, m2, e2, e⟩ := Mb_some e
    refine ⟨R, ρ, n, x, m, rp, e1, fun v R1 H1 rp1 S1 z1 => ?_⟩
    cases z1 with
    | tup h l f =>
      cases e
      exact ⟨_, _, rfl, .inl (hK ▸ rp1.hp.same.le.sqT h), R1, ρ, m, ys, _, rp1, e2, fun vs R2 H2 rp2 S2 z2 => q _ R2 H2 rp2 (S1.trans S2) ((f.mono S2.le).app z2)⟩
    | lst h l f =>
      cases e
      exact ⟨_, _, rfl, .inr (SqL.of (rp1.hp.same _ _ h)), R1, ρ, m, ys, _, rp1, e2, fun vs R2 H2 rp2 S2 z2 => q _ R2 H2 rp2 (S1.trans S2) ((f.mono S2.le).app z2)⟩
    | _ => cases e⟩
end
/-! subscripts -/
section
variable {X : Cx} {Γ : Gm} {a b : Expr} {ta tb : Ed} {pos : Pos}
theorem FzA.atI {c : Cn} {R : Hp} {vs : List V} {ds : List D} {i : Int} {d : D} (h : FzA c R vs ds) (e : L2.atI ds i = some d) : ∃ v, L2.atI vs i = some v ∧ Fz c R v d := by
  unfold L2.atI at e ⊢
  rw [← h.len] at e
  cases q : ixN vs.length i with
  | none => rw [q] at e; cases e
  | some j =>
    rw [q] at e
    exact h.get (i := j) e
def fIx : D → D → Option D
  | .tup ds, .int i => L2.atI ds i
  | .lst ds, .int i => L2.atI ds i
  | .str z, .int i => (L2.atI z.cps.toList i).map fun c => .str ⟨#[c]⟩
  | _, _ => none
theorem one_len (c : Nat) : (⟨#[c]⟩ : Str).length ≤ sizeLine := by show 1 ≤ sizeLine; decide
theorem o2Ix (hK : X.K = Γ.c.K) : Op2 Γ (rIx X.K) fIx := fun R H x y dx dy d e S z1 z2 => by
  cases z1 with
  | tup h l f => cases z2 with
    | int i => obtain ⟨v, h1, h2⟩ := f.atI e; exact gives_c h2 fun Q q => .inr (.inl ⟨_, _, _, _, rfl, rfl, hK ▸ S.le.sqT h, h1, q⟩)
    | _ => cases e
  | lst h l f => cases z2 with
    | int i => obtain ⟨v, h1, h2⟩ := f.atI e; exact gives_c h2 fun Q q => .inl ⟨_, _, _, _, rfl, rfl, SqL.of (S _ _ h), h1, q⟩
    | _ => cases e
  | str z hz => cases z2 with
    | int i =>
      obtain ⟨c, ec, rfl⟩ := Option.map_eq_some_iff.mp e
      exact gives_c (.str _ (one_len c)) fun Q q => .inr (.inr ⟨z, i, c, rfl, rfl, hz, ec, q⟩)
    | _ => cases e
  | _ => cases e
theorem d_ix (ha : DE X Γ a ta) (hb : DE X Γ b tb) (hs : PlainIx b := by exact fun _ _ => rfl) (hK : X.K = Γ.c.K := by rfl) : DE X Γ (.Subscript a b pos) (e2 fIx ta tb) :=
  ⟨PE.wk (pe_ix ix_seq ha.p hb.p hs) fun σ H Q ⟨R, ρ, n, r, n', rp, e, q⟩ => by
    obtain ⟨x, m, e1, e⟩ := Mb_some e
    obtain ⟨y, m2, e2, e⟩ := Mb_some e
    obtain ⟨ee, rfl⟩ := Mo_some e
    refine ⟨R, ρ, n, x, m, rp, e1, fun v R1 H1 rp1 S1 z1 => ⟨R1, ρ, m, y, _, rp1, e2, fun u R2 H2 rp2 S2 z2 => ?_⟩⟩
    exact o2Ix hK R2 H2 v u x y r ee rp2.hp.same (z1.mono S2.le) z2 σ ρ _ Q rp2 fun w R3 H3 rp3 S3 z3 => q w R3 H3 rp3 ((S1.trans S2).trans S3) z3⟩
/-! slices -/
abbrev Pd := Sd → M (Option Int)
structure DP (X : Cx) (Γ : Gm) (e : Option Expr) (t : Pd) : Prop where
  p : PO X e fun σ H Q => ∃ R ρ n r n', Rp Γ R H σ ρ n ∧ t ρ n = some (r, n') ∧ ∀ R' H', Rp Γ R' H' σ ρ n' → Go Γ R H R' H' → Q r H'
theorem dp_none : DP X Γ none (fun _ => Mp none) := ⟨⟨fun pins s σ H Q I ⟨R, ρ, n, r, n', rp, e, q⟩ => by
  cases e
  exact po_none.run pins s σ H Q I (q R H rp (Go.refl _ _ _))⟩⟩
def pSome (t : Ed) : Pd := fun ρ => Mb (t ρ) fun d => match d with
  | .int i => Mp (some i)
  | _ => Mo none
theorem dp_some (ha : DE X Γ a ta) : DP X Γ (some a) (pSome ta) := ⟨⟨fun pins s σ H Q I ⟨R, ρ, n, r, n', rp, e, q⟩ => by
  obtain ⟨x, m, e1, e⟩ := Mb_some e
  refine (po_some ha.p).run pins s σ H Q I ⟨R, ρ, n, x, m, rp, e1, fun v R1 H1 rp1 S1 z1 => ?_⟩
  cases z1 with
  | int i => cases e; exact ⟨i, rfl, q R1 H1 rp1 S1⟩
  | _ => cases e⟩⟩
def cutD (xs : List D) (lo hi : Option Int) : List D := (xs.drop (HT.sIx xs.length 0 lo)).take (HT.sIx xs.length xs.length hi - HT.sIx xs.length 0 lo)
theorem FzA.cut {c : Cn} {R : Hp} {vs : List V} {ds : List D} (h : FzA c R vs ds) (lo hi : Option Int) : FzA c R (cutV vs lo hi) (cutD ds lo hi) := by
  unfold cutV cutD
  rw [h.len]
  exact (h.drop _).take _
def fSl : D → Option Int → Option Int → Option D
  | .tup ds, lo, hi => some (.tup (cutD ds lo hi))
  | .lst ds, lo, hi => some (.lst (cutD ds lo hi))
  | .str z, lo, hi => some (.str (cutS z lo hi))
  | _, _, _ => none
def eSl (t : Ed) (l h : Pd) : Ed := fun ρ => Mb (t ρ) fun x => Mb (l ρ) fun lo => Mb (h ρ) fun hi => Mo (fSl x lo hi)
theorem d_sl {lo hi : Option Expr} {tl th : Pd} {p2 : Pos} (ha : DE X Γ a ta) (hl : DP X Γ lo tl) (hh : DP X Γ hi th) (hK : X.K = Γ.c.K := by rfl) : DE X Γ (.Subscript a (.Slice lo hi none p2) pos) (eSl ta tl th) :=
  ⟨PE.wk (pe_slice (sl_list.or (sl_tupA.or sl_str)) ha.p hl.p hh.p) fun σ H Q ⟨R, ρ, n, r, n', rp, e, q⟩ => by
    obtain ⟨x, m, e1, e⟩ := Mb_some e
    obtain ⟨l, m2, e2, e⟩ := Mb_some e
    obtain ⟨h, m3, e3, e⟩ := Mb_some e
    obtain ⟨ee, rfl⟩ := Mo_some e
    refine ⟨R, ρ, n, x, m, rp, e1, fun v R1 H1 rp1 S1 z1 => ⟨R1, ρ, m, l, _, rp1, e2, fun R2 H2 rp2 S2 => ⟨R2, ρ, _, h, _, rp2, e3, fun R3 H3 rp3 S3 => ?_⟩⟩⟩
    have z3 := (z1.mono S2.le).mono S3.le
    have S123 := (S1.trans S2).trans S3
    cases z3 with
    | lst hh lh f =>
      cases ee
      refine .inl ⟨_, _, rfl, SqL.of (rp3.hp.same _ _ hh), fun p hp => q _ _ _ (rp3.lay hp) (S123.trans (rp3.go hp)) (.lst upd_same ?_ ((f.cut l h).mono (rp3.go hp).le))⟩
      exact Nat.le_trans (cutV_length _ _ _) lh
    | tup hh lh f =>
      cases ee
      refine .inr (.inl ⟨_, _, rfl, hK ▸ rp3.hp.same.le.sqT hh, fun hw => ?_, fun _ p hp => ?_⟩)
      · refine q _ R3 H3 rp3 S123 (.tup hh lh ?_)
        have e0 := f.cut l h
        have : cutV _ l h = _ := show cutV _ l h = _ from by unfold cutV; rw [hw.1, hw.2, List.drop_zero, Nat.sub_zero, List.take_length]
        rw [this] at e0
        exact e0
      · exact q _ _ _ (rp3.lay hp) (S123.trans (rp3.go hp)) (.tup (SqT.of upd_same) (Nat.le_trans (cutV_length _ _ _) lh) ((f.cut l h).mono (rp3.go hp).le))
    | str z hz =>
      cases ee
      exact .inr (.inr ⟨z, rfl, hz, q _ R3 H3 rp3 S123 (.str _ (Nat.le_trans (cutS_length z _ _) hz))⟩)
    | _ => cases ee⟩
def fRev : D → Option D
  | .lst ds => some (.lst ds.reverse)
  | _ => none
theorem d_rev {k : Nat} {p1 p2 p3 : Pos} (ha : DE X Γ a ta) (hK : X.K = Γ.c.K := by rfl) : DE X Γ (.Subscript a (.Slice none none (some (.UnaryOp .USub (.Constant (.int 1) k p1) p2)) p3) pos) (e1 fRev ta) :=
  ⟨PE.wk (pe_revL ha.p) fun σ H Q ⟨R, ρ, n, r, n', rp, e, q⟩ => by
    obtain ⟨x, m, e1, e⟩ := Mb_some e
    obtain ⟨ee, rfl⟩ := Mo_some e
    refine ⟨R, ρ, n, x, _, rp, e1, fun v R1 H1 rp1 S1 z1 => ?_⟩
    cases z1 with
    | lst hh lh f =>
      cases ee
      exact ⟨_, _, rfl, SqL.of (rp1.hp.same _ _ hh), fun p hp => q _ _ _ (rp1.lay hp) (S1.trans (rp1.go hp)) (.lst upd_same (by rw [List.length_reverse]; exact lh) (f.rev.mono (rp1.go hp).le))⟩
    | _ => cases ee⟩
end
end Sh

set_option Elab.async false
set_option linter.all false
set_option maxRecDepth 100000
namespace Nf
open PySem L2
/-! ### sayings -/
inductive Say where
  | name (x : Str) | skip | app (c : Bool) (w : Str) (ps : List Say) | two (c : Bool) (a b : Say)
def hApp (c : Bool) : Str := if c then "call" else "made"
def hTwo (c : Bool) : Str := if c then "same" else "either"
mutual
def Say.da : Say → Da
  | .name x => .tup [.str "name", .str x]
  | .skip => .tup [.str "skip"]
  | .app c w ps => .tup [.str (hApp c), .str w, .tup (Say.das ps)]
  | .two c a b => .tup [.str (hTwo c), Say.da a, Say.da b]
def Say.das : List Say → List Da
  | [] => []
  | s :: r => Say.da s :: Say.das r
end
theorem Say.das_map : ∀ ps : List Say, Say.das ps = ps.map Say.da
  | [] => rfl
  | s :: r => by simp only [Say.das, List.map_cons, Say.das_map r]
def Say.head : Say → Str
  | .name _ => "name"
  | .skip => "skip"
  | .app c _ _ => hApp c
  | .two c _ _ => hTwo c
section
variable {H : Hp} {v : V}
theorem is_name {x : Str} (h : Is H v (Say.name x).da) : ∃ a, v = .ref a ∧ H a = some (.tup [.str "name", .str x]) := by
  simp only [Say.da] at h
  cases h with
  | @tup a xs _ h1 h2 =>
    cases h2 with
    | cons p q =>
      cases q with
      | cons p2 q2 =>
        cases q2; cases p; cases p2
        exact ⟨a, rfl, h1⟩
theorem is_skip (h : Is H v Say.skip.da) : ∃ a, v = .ref a ∧ H a = some (.tup [.str "skip"]) := by
  simp only [Say.da] at h
  cases h with
  | @tup a xs _ h1 h2 =>
    cases h2 with
    | cons p q =>
      cases q; cases p
      exact ⟨a, rfl, h1⟩
theorem is_app {c : Bool} {w : Str} {ps : List Say} (h : Is H v (Say.app c w ps).da) : ∃ a b xs, v = .ref a ∧ H a = some (.tup [.str (hApp c), .str w, .ref b]) ∧ H b = some (.tup xs) ∧ IsA H xs (ps.map Say.da) := by
  simp only [Say.da, Say.das_map] at h
  cases h with
  | @tup a xs _ h1 h2 =>
    cases h2 with
    | cons p q =>
      cases q with
      | cons p2 q2 =>
        cases q2 with
        | cons p3 q3 =>
          cases q3; cases p; cases p2
          cases p3 with
          | @tup b ys _ h3 h4 => exact ⟨a, b, ys, rfl, h1, h3, h4⟩
theorem is_two {c : Bool} {s t : Say} (h : Is H v (Say.two c s t).da) : ∃ a x y, v = .ref a ∧ H a = some (.tup [.str (hTwo c), x, y]) ∧ Is H x s.da ∧ Is H y t.da := by
  simp only [Say.da] at h
  cases h with
  | @tup a xs _ h1 h2 =>
    cases h2 with
    | cons p q =>
      cases q with
      | cons p2 q2 =>
        cases q2 with
        | cons p3 q3 =>
          cases q3; cases p
          exact ⟨a, _, _, rfl, h1, p2, p3⟩
theorem mk_name {a : Addr} {x : Str} (h : H a = some (.tup [.str "name", .str x])) : Is H (.ref a) (Say.name x).da := by
  simp only [Say.da]
  exact .tup h (.cons (.str _) (.cons (.str _) .nil))
theorem mk_skip {a : Addr} (h : H a = some (.tup [.str "skip"])) : Is H (.ref a) Say.skip.da := by
  simp only [Say.da]
  exact .tup h (.cons (.str _) .nil)
theorem mk_app {a b : Addr} {c : Bool} {w : Str} {xs : List V} {ps : List Say} (h : H a = some (.tup [.str (hApp c), .str w, .ref b])) (h2 : H b = some (.tup xs)) (h3 : IsA H xs (ps.map Say.da)) : Is H (.ref a) (Say.app c w ps).da := by
  simp only [Say.da, Say.das_map]
  exact .tup h (.cons (.str _) (.cons (.str _) (.cons (.tup h2 h3) .nil)))
theorem mk_two {a : Addr} {x y : V} {c : Bool} {s t : Say} (h : H a = some (.tup [.str (hTwo c), x, y])) (h2 : Is H x s.da) (h3 : Is H y t.da) : Is H (.ref a) (Say.two c s t).da := by
  simp only [Say.da]
  exact .tup h (.cons (.str _) (.cons h2 (.cons h3 .nil)))
/-- the head of a saying stands first -/
theorem is_head {s : Say} (h : Is H v s.da) : ∃ a r, v = .ref a ∧ H a = some (.tup (.str s.head :: r)) := by
  cases s with
  | name x => obtain ⟨a, rfl, h'⟩ := is_name h; exact ⟨a, _, rfl, h'⟩
  | skip => obtain ⟨a, rfl, h'⟩ := is_skip h; exact ⟨a, _, rfl, h'⟩
  | app c w ps => obtain ⟨a, b, xs, rfl, h, _⟩ := is_app h; exact ⟨a, _, rfl, h⟩
  | two c s t => obtain ⟨a, x, y, rfl, h, _⟩ := is_two h; exact ⟨a, _, rfl, h⟩
end
/-- within a depth, with heads among some, at most three parts -/
def Say.ok (f : Str → Prop) : Nat → Say → Prop
  | 0, _ => False
  | _ + 1, .name _ => f "name"
  | _ + 1, .skip => f "skip"
  | n + 1, .app c _ ps => f (hApp c) ∧ ps.length ≤ 3 ∧ ∀ p ∈ ps, Say.ok f n p
  | n + 1, .two c a b => f (hTwo c) ∧ Say.ok f n a ∧ Say.ok f n b
theorem Say.ok_mono {f : Str → Prop} : ∀ {n m : Nat} {s : Say}, n ≤ m → Say.ok f n s → Say.ok f m s
  | 0, _, _, _, h => h.elim
  | _ + 1, 0, _, h, _ => absurd h (by omega)
  | n + 1, m + 1, .name _, _, h => h
  | n + 1, m + 1, .skip, _, h => h
  | n + 1, m + 1, .app c w ps, hm, h => ⟨h.1, h.2.1, fun p hp => Say.ok_mono (by omega) (h.2.2 p hp)⟩
  | n + 1, m + 1, .two c a b, hm, h => ⟨h.1, Say.ok_mono (by omega) h.2.1, Say.ok_mono (by omega) h.2.2⟩
theorem Say.ok_imp {f g : Str → Prop} (k : ∀ x, f x → g x) : ∀ {n : Nat} {s : Say}, Say.ok f n s → Say.ok g n s
  | 0, _, h => h.elim
  | n + 1, .name _, h => k _ h
  | n + 1, .skip, h => k _ h
  | n + 1, .app c w ps, h => ⟨k _ h.1, h.2.1, fun p hp => Say.ok_imp k (h.2.2 p hp)⟩
  | n + 1, .two c a b, h => ⟨k _ h.1, Say.ok_imp k h.2.1, Say.ok_imp k h.2.2⟩
theorem Say.dep {f : Str → Prop} : ∀ {n : Nat} {s : Say}, Say.ok f n s → Da.dep (2 * n + 2) s.da
  | 0, _, h => h.elim
  | n + 1, .name _, _ => by
    simp only [Say.da]
    refine ⟨by simp, fun d hd => ?_⟩
    simp at hd
    rcases hd with rfl | rfl <;> exact True.intro
  | n + 1, .skip, _ => by
    simp only [Say.da]
    refine ⟨by simp, fun d hd => ?_⟩
    simp at hd
    subst hd
    exact True.intro
  | n + 1, .app c w ps, h => by
    simp only [Say.da, Say.das_map]
    refine ⟨by simp, fun d hd => ?_⟩
    simp at hd
    rcases hd with rfl | rfl | rfl
    · exact True.intro
    · exact True.intro
    · refine ⟨by rw [List.length_map]; have := h.2.1; omega, fun d hd => ?_⟩
      obtain ⟨p, hp, rfl⟩ := List.mem_map.mp hd
      have := Say.dep (h.2.2 p hp)
      exact this
  | n + 1, .two c a b, h => by
    simp only [Say.da]
    have k : ∀ {j : Nat} {d : Da}, Da.dep j d → Da.dep (j + 1) d := by
      intro j
      induction j with
      | zero => intro d h; exact h.elim
      | succ j ih =>
        intro d h
        cases d with
        | tup ds => exact ⟨h.1, fun d hd => ih (h.2 d hd)⟩
        | _ => exact True.intro
    refine ⟨by simp, fun d hd => ?_⟩
    simp at hd
    rcases hd with rfl | rfl | rfl
    · exact True.intro
    · exact k (Say.dep h.2.1)
    · exact k (Say.dep h.2.2)
theorem Da.dep_mono : ∀ {n m : Nat} {d : Da}, n ≤ m → Da.dep n d → Da.dep m d
  | 0, _, _, _, h => h.elim
  | _ + 1, 0, _, h, _ => absurd h (by omega)
  | n + 1, m + 1, .tup ds, hm, h => ⟨h.1, fun d hd => Da.dep_mono (by omega) (h.2 d hd)⟩
  | n + 1, m + 1, .non, _, _ => True.intro
  | n + 1, m + 1, .bl _, _, _ => True.intro
  | n + 1, m + 1, .int _, _, _ => True.intro
  | n + 1, m + 1, .str _, _, _ => True.intro
/-- the six heads -/
def heads6 : List Str := ["name", "made", "call", "either", "same", "skip"]
theorem str_len (x y : Str) : (x ++ y).length = x.length + y.length := by
  show (x.cps ++ y.cps).size = x.cps.size + y.cps.size
  rw [Array.size_append]
/-- what a draw may cost -/
def cost (m : Nat) : Nat := 20 * 4 ^ m
theorem cost_pos (m : Nat) : 20 ≤ cost m := by
  unfold cost
  have : 0 < 4 ^ m := Nat.pow_pos (by decide)
  omega
theorem cost_succ (m : Nat) : cost (m + 1) = 4 * cost m := by
  unfold cost
  rw [Nat.pow_succ]
  omega
theorem atC {xs : List Nat} {i : Int} (h0 : 0 ≤ i) (h1 : i < xs.length) : ∃ v, atI xs i = some v := by
  have hk : i.toNat < xs.length := by omega
  refine ⟨xs[i.toNat], ?_⟩
  unfold atI ixN
  rw [if_pos h0, if_pos h1]
  exact List.getElem?_eq_getElem hk
theorem ifT {c A B : Prop} [Decidable c] (hc : c) (h : A) : if decide c = true then A else B := by rw [decide_eq_true hc]; exact iteT h
theorem ifF {c A B : Prop} [Decidable c] (hc : ¬ c) (h : B) : if decide c = true then A else B := by rw [decide_eq_false hc]; exact iteF h
theorem ifBT {b : Bool} {A B : Prop} (hb : b = true) (h : A) : if b = true then A else B := by rw [if_pos hb]; exact h
theorem ifBF {b : Bool} {A B : Prop} (hb : b = false) (h : B) : if b = true then A else B := by rw [hb]; exact iteF h
theorem g_name {i : Nat} {v : V} {σ : L2.St} {H : Hp} {Q : L2.St → Hp → Prop} (h : Q (σ.set i (some v)) H) : gName i v σ H Q := h
theorem seq_cut {t1 t2 : TS} {D : Ends} {σ : L2.St} {H : Hp} (M : L2.St → Hp → Prop) (h2 : ∀ σ' H', M σ' H' → t2 D σ' H') (h1 : (∀ σ' H', M σ' H' → t2 D σ' H') → t1 { D with nx := t2 D } σ H) : tSeq t1 t2 D σ H := h1 h2
theorem flat_strs : ∀ ws : List Str, (ws.map V.str).all flatV = true
  | [] => rfl
  | x :: r => by rw [List.map_cons, List.all_cons, flat_strs r]; rfl
theorem inV_strs {x : Str} : ∀ {ws : List Str}, inV (.str x) (ws.map V.str) = true ↔ x ∈ ws
  | [] => by simp [inV]
  | y :: r => by
    have h := inV_strs (x := x) (ws := r)
    unfold inV at h ⊢
    rw [List.map_cons, List.any_cons, Bool.or_eq_true, h, List.mem_cons]
    show (y == x) = true ∨ _ ↔ _
    rw [beq_iff_eq]
    exact ⟨fun z => z.imp Eq.symm id, fun z => z.imp Eq.symm id⟩
theorem heads6_cases {x : Str} (h : x ∈ heads6) : x = "skip" ∨ x = "name" ∨ (∃ c, x = hTwo c) ∨ ∃ c, x = hApp c := by
  unfold heads6 at h
  simp only [List.mem_cons, List.not_mem_nil, or_false] at h
  rcases h with h | h | h | h | h | h
  · exact .inr (.inl h)
  · exact .inr (.inr (.inr ⟨false, h⟩))
  · exact .inr (.inr (.inr ⟨true, h⟩))
  · exact .inr (.inr (.inl ⟨false, h⟩))
  · exact .inr (.inr (.inl ⟨true, h⟩))
  · exact .inl h
theorem Keep.at {D : List Addr} {H H' : Hp} {a : Addr} {o : HO} (k : Keep D H H') (h : H a = some o) (n : a ∉ D) : H' a = some o := k a o h n
theorem Keep.is {D : List Addr} {H H' : Hp} {v : V} {d : Da} (k : Keep D H H') (n : NoTup D H) (h : Is H v d) : Is H' v d := h.mono (k.tups n)
theorem IsA.map_get {α : Type} {H : Hp} {f : α → Da} {vs : List V} {xs : List α} {i : Nat} {v : V} (h : IsA H vs (xs.map f)) (e : vs[i]? = some v) : ∃ x, xs[i]? = some x ∧ Is H v (f x) := by
  obtain ⟨d, h1, h2⟩ := h.getV e
  rw [List.getElem?_map] at h1
  obtain ⟨x, hx, rfl⟩ := Option.map_eq_some_iff.mp h1
  exact ⟨x, hx, h2⟩
end Nf

set_option Elab.async false
set_option linter.all false
set_option maxRecDepth 100000
namespace Nf
open PySem L2
theorem cut_whole {xs : List V} {lo hi : Option Int} (h : HT.sIx xs.length 0 lo = 0 ∧ HT.sIx xs.length xs.length hi = xs.length) : cutV xs lo hi = xs := by
  show (xs.drop (HT.sIx xs.length 0 lo)).take (HT.sIx xs.length xs.length hi - HT.sIx xs.length 0 lo) = xs
  rw [h.1, h.2, List.drop_zero, Nat.sub_zero, List.take_length]
theorem sl_any {K : PySem.W.Frag} {H : Hp} {a : Addr} {xs : List V} {lo hi : Option Int} {Q : VK} (h : H a = some (.tup xs)) (q : ∀ p H', Same H H' → H' p = some (.tup (cutV xs lo hi)) → Q (.ref p) H') : rSlA K (.ref a) lo hi H Q := by
  refine ⟨a, xs, rfl, SqT.of h, fun hw => q a H (Same.refl H) (by rw [cut_whole hw]; exact h), fun _ p hp => q p _ (same_new hp _) upd_same⟩
theorem cat_any {K : PySem.W.Frag} {H : Hp} {a b : Addr} {xs ys : List V} {Q : VK} (h : H a = some (.tup xs)) (h2 : H b = some (.tup ys)) (hz : xs.length + ys.length ≤ 100000) (q : ∀ p H', Same H H' → H' p = some (.tup (xs ++ ys)) → Q (.ref p) H') : rCatA K (.ref a) (.ref b) H Q := by
  refine ⟨a, b, xs, ys, rfl, rfl, SqT.of h, SqT.of h2, sz5 hz, fun e => ?_, fun _ e => ?_, fun _ _ p hp => q p _ (same_new hp _) upd_same⟩
  · subst e; exact q b H (Same.refl H) (by simpa using h2)
  · subst e; exact q a H (Same.refl H) (by simpa using h)
theorem cut_from1 {x : V} {xs : List V} : cutV (x :: xs) (some 1) none = xs := by
  show ((x :: xs).drop (HT.sIx (x :: xs).length 0 (some ((1 : Nat) : Int)))).take ((x :: xs).length - HT.sIx (x :: xs).length 0 (some ((1 : Nat) : Int))) = xs
  rw [HT.sIx_nat]
  have e : min 1 (x :: xs).length = 1 := by rw [List.length_cons]; omega
  rw [e, List.drop_succ_cons, List.drop_zero, List.length_cons, Nat.add_sub_cancel, List.take_length]
theorem cut_to1 {x : V} {xs : List V} : cutV (x :: xs) none (some 1) = [x] := by
  show ((x :: xs).drop 0).take (HT.sIx (x :: xs).length (x :: xs).length (some ((1 : Nat) : Int)) - 0) = [x]
  rw [HT.sIx_nat]
  have e : min 1 (x :: xs).length = 1 := by rw [List.length_cons]; omega
  rw [e]
  rfl
def Say.isApp : Say → Bool
  | .app _ _ _ => true
  | _ => false
def Say.isTwo : Say → Bool
  | .two _ _ _ => true
  | _ => false
theorem in_mc (s : Say) : inV (.str s.head) [.str "made", .str "call"] = s.isApp := by
  cases s with
  | app c _ _ => show inV (.str (hApp c)) _ = true; revert c; decide
  | two c _ _ => show inV (.str (hTwo c)) _ = false; revert c; decide
  | name x => show inV (.str "name") _ = false; decide
  | skip => show inV (.str "skip") _ = false; decide
theorem in_es (s : Say) : inV (.str s.head) [.str "either", .str "same"] = s.isTwo := by
  cases s with
  | app c _ _ => show inV (.str (hApp c)) _ = false; revert c; decide
  | two c _ _ => show inV (.str (hTwo c)) _ = true; revert c; decide
  | name x => show inV (.str "name") _ = false; decide
  | skip => show inV (.str "skip") _ = false; decide
theorem head_app {c : Bool} {w : Str} {ps : List Say} : (Say.app c w ps).head ≠ "name" := by
  show hApp c ≠ "name"; revert c; decide
theorem head_two {c : Bool} {a b : Say} : (Say.two c a b).head ≠ "name" := by
  show hTwo c ≠ "name"; revert c; decide
theorem head_skip : Say.skip.head ≠ "name" := by
  show ¬ (("skip" : Str) = "name"); decide
theorem at0 {x : V} {r : List V} : atI (x :: r) 0 = some x := at_of (j := 0) rfl rfl
/-- a list made of a tuple's (or list's) items, one by one, each by a call that leaves all as it was -/
theorem lc_map {α : Type} {J : It} {G : Hp → Prop} {xs : List V} (W : Walk J xs.length G (YAt xs)) {f g : α → Da} {ps : List α} {H1 : Hp} {Z : Addr} {i0 : Nat} {te : TE} {vs : List Nat} {σ : L2.St} {Qd : Hp → Prop}
    (hxs : IsA H1 xs (ps.map f)) (hG : ∀ H, Same H1 H → G H) (hlen : ps.length ≤ 90000) (hZ : H1 Z = none)
    (hw : ∀ x : V, wipe ((wipe σ vs).set i0 (some x)) vs = wipe σ vs)
    (turn : ∀ (i : Nat) (x : V) (p : α) (H2 : Hp) (Q : VK), ps[i]? = some p → Same H1 H2 → Is H2 x (f p) → (∀ y H4, Same H2 H4 → Is H4 y (g p) → Q y H4) → te ((wipe σ vs).set i0 (some x)) H2 Q)
    (done : ∀ (H2 : Hp) (us : List V), Same H1 H2 → H2 Z = some (.lst us) → IsA H2 us (ps.map g) → Qd H2) :
    ∃ W : Nat → Nat → Hp → Prop, (∃ m, W 0 m (upd H1 Z (.lst []))) ∧ ∀ i m H, W i m H →
      (J.stop i H ∧ Qd H) ∨ (J.go i H ∧ ∃ Nx : Hp → Prop, (∀ H', Nx H' → ∃ m', m' < m ∧ W (i + 1) m' H') ∧ ∀ x H', J.yld i H x H' → gName i0 x (wipe σ vs) H' fun σ2 H2 => wipe σ2 vs = wipe σ vs ∧ tYes σ2 H2 fun b H3 =>
        if b = true then te σ2 H3 fun y H4 => ∃ acc, H4 Z = some (.lst acc) ∧ acc.length < sizeLine ∧ Nx (upd H4 Z (.lst (acc ++ [y]))) else Nx H3) := by
  have hxl : xs.length = ps.length := by rw [hxs.len, List.length_map]
  refine lc_it W (fun i H' => ∃ us : List V, Same H1 H' ∧ H' Z = some (.lst us) ∧ IsA H' us ((ps.take i).map g)) ?_ ?_ ?_ ?_
  · exact ⟨[], same_new hZ _, upd_same, .nil⟩
  · rintro i H2 _ ⟨us, h, _⟩
    exact hG H2 h
  · rintro i x H2 H3 hi ⟨us, S2, hZ2, IA⟩ ⟨rfl, hx⟩
    obtain ⟨p, hp, hxp⟩ := hxs.map_get hx
    refine ⟨hw x, yes_if ?_⟩
    refine turn i x p _ _ hp S2 (hxp.mono S2.tups) fun y H4 S4 I4 => ?_
    have lus : us.length = i := by rw [IA.len, List.length_map, List.length_take]; omega
    refine ⟨us, S4 _ _ hZ2, sz5' (by omega), us ++ [y], (S2.trans S4).mutN hZ, upd_same, ?_⟩
    have N : TupS H4 (upd H4 Z (.lst (us ++ [y]))) := (TupS.refl H4).mutL (S4 _ _ hZ2)
    rw [List.take_add_one, hp, List.map_append]
    exact ((IA.mono S4.tups).mono N).app (.cons (I4.mono N) .nil)
  · rintro H2 ⟨us, S2, hZ2, IA⟩
    rw [hxl, List.take_length] at IA
    exact done H2 us S2 hZ2 IA
/-! ### filled -/
abbrev Fl := List (Str × Say)
mutual
def Say.fill (fs : Fl) : Say → Say
  | .name x => (fs.lookup x).getD (.name x)
  | .skip => .skip
  | .app c w ps => .app c w (Say.fillA fs ps)
  | .two c a b => .two c (Say.fill fs a) (Say.fill fs b)
def Say.fillA (fs : Fl) : List Say → List Say
  | [] => []
  | s :: r => Say.fill fs s :: Say.fillA fs r
end
theorem Say.fillA_map {fs : Fl} : ∀ ps : List Say, Say.fillA fs ps = ps.map (Say.fill fs)
  | [] => rfl
  | s :: r => by simp only [Say.fillA, List.map_cons, Say.fillA_map r]
theorem Say.fill_app {fs : Fl} {c : Bool} {w : Str} {ps : List Say} : (Say.app c w ps).fill fs = .app c w (ps.map (Say.fill fs)) := by simp only [Say.fill, Say.fillA_map]
theorem Say.fill_two {fs : Fl} {c : Bool} {a b : Say} : (Say.two c a b).fill fs = .two c (a.fill fs) (b.fill fs) := by simp only [Say.fill]
theorem Say.fill_skip {fs : Fl} : Say.skip.fill fs = .skip := by simp only [Say.fill]
theorem Say.fill_name {fs : Fl} {x : Str} : (Say.name x).fill fs = (fs.lookup x).getD (.name x) := by simp only [Say.fill]
def pairDa (p : Str × Say) : Da := .tup [.str p.1, p.2.da]
def flDa (fs : Fl) : Da := .tup (fs.map pairDa)
def Say.parts : Say → List Say
  | .app _ _ ps => ps
  | .two _ a b => [a, b]
  | _ => []
def Say.withP : Say → List Say → Say
  | .app c w _, ps => .app c w ps
  | .two c _ _, [a, b] => .two c a b
  | s, _ => s
theorem Say.fill_parts {fs : Fl} {s : Say} (h : s.head ≠ "name") : s.fill fs = s.withP (s.parts.map (Say.fill fs)) := by
  cases s with
  | name x => exact absurd rfl h
  | skip => simp only [Say.fill, Say.withP]
  | app c w ps => rw [Say.fill_app]; rfl
  | two c a b => rw [Say.fill_two]; rfl
theorem Say.ok_parts {f : Str → Prop} {n : Nat} {s : Say} (h : Say.ok f (n + 1) s) : ∀ p ∈ s.parts, Say.ok f n p := by
  cases s with
  | name x => intro p hp; cases hp
  | skip => intro p hp; cases hp
  | app c w ps => exact h.2.2
  | two c a b =>
    intro p hp
    simp only [Say.parts, List.mem_cons, List.not_mem_nil, or_false] at hp
    rcases hp with rfl | rfl
    · exact h.2.1
    · exact h.2.2
theorem Say.parts_le {f : Str → Prop} {n : Nat} {s : Say} (h : Say.ok f (n + 1) s) : s.parts.length ≤ 3 := by
  cases s with
  | name x => exact Nat.zero_le _
  | skip => exact Nat.zero_le _
  | app c w ps => exact h.2.1
  | two c a b => show 2 ≤ 3; decide
theorem is_pair {H : Hp} {v : V} {p : Str × Say} (h : Is H v (pairDa p)) : ∃ a y, v = .ref a ∧ H a = some (.tup [.str p.1, y]) ∧ Is H y p.2.da := by
  cases h with
  | @tup a xs _ h1 h2 =>
    cases h2 with
    | cons p1 q1 =>
      cases q1 with
      | cons p2 q2 =>
        cases q2; cases p1
        exact ⟨a, _, rfl, h1, p2⟩
theorem is_fl {H : Hp} {v : V} {fs : Fl} (h : Is H v (flDa fs)) : ∃ a xs, v = .ref a ∧ H a = some (.tup xs) ∧ IsA H xs (fs.map pairDa) := by
  cases h with
  | @tup a xs _ h1 h2 => exact ⟨a, xs, rfl, h1, h2⟩
/-- a dict of the fills -/
def DR (H : Hp) (kvs : List (Key × V)) (fs : Fl) : Prop := ∀ x : Str, (∀ s, fs.lookup x = some s → ∃ u, valV kvs (Sum.inr x) = some u ∧ Is H u s.da) ∧ (fs.lookup x = none → valV kvs (Sum.inr x) = none)
theorem DR.mono {H H' : Hp} {kvs : List (Key × V)} {fs : Fl} (d : DR H kvs fs) (k : TupS H H') : DR H' kvs fs := fun x =>
  ⟨fun s hs => let ⟨u, h1, h2⟩ := (d x).1 s hs; ⟨u, h1, h2.mono k⟩, (d x).2⟩
theorem DR.snoc {H : Hp} {kvs : List (Key × V)} {fs : Fl} {x : Str} {s : Say} {u : V} (d : DR H kvs fs) (hn : fs.lookup x = none) (h : Is H u s.da) : DR H (putK kvs (Sum.inr x) u) (fs ++ [(x, s)]) := fun y => by
  rw [List.lookup_append, valV_put]
  by_cases e : y = x
  · subst e
    rw [hn, if_pos rfl]
    have e1 : List.lookup y [(y, s)] = some s := by simp [List.lookup]
    rw [e1]
    exact ⟨fun s' hs' => by
      have : s = s' := by simpa using hs'
      subst this
      exact ⟨u, rfl, h⟩, fun z => by simp at z⟩
  · have e0 : (y == x) = false := beq_eq_false_iff_ne.mpr e
    have e1 : List.lookup y [(x, s)] = none := by simp only [List.lookup, e0]
    have e2 : ¬ (Sum.inr y : Key) = Sum.inr x := fun z => e (Sum.inr.inj z)
    rw [e1, if_neg e2, Option.or_none]
    exact d y
theorem put_len {kvs : List (Key × V)} {k : Key} {v : V} : (putK kvs k v).length ≤ kvs.length + 1 := by
  unfold putK
  split
  · rw [List.length_map]; omega
  · rw [List.length_append]; exact Nat.le_refl _
theorem lookup_none_of {fs : Fl} {x : Str} (h : x ∉ fs.map Prod.fst) : fs.lookup x = none := by
  induction fs with
  | nil => rfl
  | cons p r ih =>
    simp only [List.map_cons, List.mem_cons, not_or] at h
    obtain ⟨y, s⟩ := p
    have e : (x == y) = false := beq_eq_false_iff_ne.mpr h.1
    simp only [List.lookup, e]
    exact ih h.2
theorem nodup_take {fs : Fl} (h : (fs.map Prod.fst).Nodup) {i : Nat} {p : Str × Say} (hp : fs[i]? = some p) : p.1 ∉ (fs.take i).map Prod.fst := by
  intro hm
  have hi : i < fs.length := (List.getElem?_eq_some_iff.mp hp).1
  have hpi : fs[i] = p := (List.getElem?_eq_some_iff.mp hp).2
  rw [List.mem_map] at hm
  obtain ⟨q, hq, hqe⟩ := hm
  rw [List.mem_take_iff_getElem] at hq
  obtain ⟨j, hj, hjq⟩ := hq
  have hji : j < i := by omega
  have hjl : j < fs.length := by omega
  have e1 : (fs.map Prod.fst)[j]? = some p.1 := by
    rw [List.getElem?_map, List.getElem?_eq_getElem hjl]
    show some (fs[j].1) = some p.1
    rw [hjq, hqe]
  have e2 : (fs.map Prod.fst)[i]? = some p.1 := by rw [List.getElem?_map, hp]; rfl
  exact absurd (nd_ix h e1 e2) (by omega)
theorem Say.fill_ok {fs : Fl} {k : Nat} (hk : ∀ p ∈ fs, Say.ok (fun _ => True) k p.2) : ∀ {n : Nat} {s : Say}, Say.ok (fun _ => True) n s → Say.ok (fun _ => True) (n + k) (s.fill fs)
  | 0, _, h => h.elim
  | n + 1, .name x, _ => by
    rw [Say.fill_name]
    cases hl : fs.lookup x with
    | none =>
      show Say.ok _ (n + 1 + k) (.name x)
      rw [show n + 1 + k = (n + k) + 1 by omega]
      exact True.intro
    | some s =>
      obtain ⟨l1, l2, e, _⟩ := List.lookup_eq_some_iff.mp hl
      exact Say.ok_mono (by omega) (hk (x, s) (by rw [e]; simp))
  | n + 1, .skip, _ => by
    rw [Say.fill_skip, show n + 1 + k = (n + k) + 1 by omega]
    exact True.intro
  | n + 1, .app c w ps, h => by
    rw [Say.fill_app, show n + 1 + k = (n + k) + 1 by omega]
    refine ⟨True.intro, by rw [List.length_map]; exact h.2.1, fun p hp => ?_⟩
    obtain ⟨q, hq, rfl⟩ := List.mem_map.mp hp
    exact Say.fill_ok hk (h.2.2 q hq)
  | n + 1, .two c a b, h => by
    rw [Say.fill_two, show n + 1 + k = (n + k) + 1 by omega]
    exact ⟨True.intro, Say.fill_ok hk h.2.1, Say.fill_ok hk h.2.2⟩
mutual
theorem Say.fill_nil : ∀ s : Say, s.fill [] = s
  | .name x => by rw [Say.fill_name]; rfl
  | .skip => Say.fill_skip
  | .app c w ps => by simp only [Say.fill, Say.fillA_nil ps]
  | .two c a b => by simp only [Say.fill, Say.fill_nil a, Say.fill_nil b]
theorem Say.fillA_nil : ∀ ps : List Say, Say.fillA [] ps = ps
  | [] => rfl
  | s :: r => by simp only [Say.fillA, Say.fill_nil s, Say.fillA_nil r]
end
end Nf

set_option Elab.async false
set_option linter.all false
set_option maxRecDepth 100000
namespace Nf
open PySem PySem.Spec PyProof.Rows L2
/-! ### enumerate of a tuple -/
abbrev enumObj (n : Addr) : Obj := { cls := .type "enumerate", data := .fields #[.none, .bool false, .ref n, rawInt 0, .none, .none] }
abbrev titObj (t : Addr) : Obj := { cls := .type "tuple_iterator", data := .fields #[.ref t, .int 0 0] }
set_option maxHeartbeats 1000000 in
theorem meets_enumT (t : Addr) (its : Array Value) : Meets (Builtin.«enumerate.__new__» ⟨[.type "enumerate", .ref t], []⟩)
    (fun _ R s => s.heap.IsTuple t its ∧ R (.ok (.ret (.ref (s.heap.push (titObj t)).objs.size))) { s with heap := (s.heap.push (titObj t)).push (enumObj s.heap.objs.size) }) :=
  .of_wp fun prog w A R s h => by
    obtain ⟨hp, gg, dr, tk, os⟩ := s
    obtain ⟨ht, h⟩ := h
    have hsub := sub_enumerate
    have it1 : ∀ {A2 : Around} {E2 : Value → Shared → Prop} {Q2 : Value → Shared → Prop}, Q2 (.ref hp.objs.size) ⟨hp.push (titObj t), gg, dr, tk, os⟩ → wpAny (model prog w) A2 (pyIter (.ref t)) Q2 E2 ⟨hp, gg, dr, tk, os⟩ :=
      fun q => (begins_tuple t its).iter prog w _ _ ⟨hp, gg, dr, tk, os⟩ _ ht q
    wp_walk using it1
    refine wpAny_stack_any fun st => wpAny_pure ?_
    split
    · rename_i cc _ _ _ _ _
      cases (cc == Value.type "enumerate") <;> (wp_walk using it1; exact ⟨_, rfl, h⟩)
    · wp_walk using it1
      exact ⟨_, rfl, h⟩
theorem call_enumT {prog : Program} {w : World} {A : Around} {E : Value → Shared → Prop} {s : Shared} {t : Addr} {its : Array Value} {Q : Value → Shared → Prop} (ht : s.heap.IsTuple t its)
    (h : ∀ h', IsEnum h' (s.heap.objs.size + 1) s.heap.objs.size 0 .none → h'.IsTupleIter s.heap.objs.size t 0 → h'.objs.size = s.heap.objs.size + 2 →
      (∀ b o, s.heap.get? b = some o → h'.get? b = some o) → Q (.ref (s.heap.objs.size + 1)) { s with heap := h' }) :
    wpAny (model prog w) A (call (.type "enumerate") [.ref t]) Q E s := by
  have hz : (s.heap.push (titObj t)).objs.size = s.heap.objs.size + 1 := Heap.size_push ..
  refine callType_new F.called_enumerate (by decide) (F.typeCall_enumerate_1 _) (F.newCall_enumerate_1 _)
    (fun obj => F.args_object_init_2 obj _) F.entry_enumerate_new (meets_enumT t its) ⟨ht, ?_⟩
  have he : IsEnum ((s.heap.push (titObj t)).push (enumObj s.heap.objs.size)) (s.heap.objs.size + 1) s.heap.objs.size 0 .none := by
    have q := Heap.get?_push_size (s.heap.push (titObj t)) (o := enumObj s.heap.objs.size) rfl
    rw [hz] at q
    exact q
  show _ ∧ _
  rw [hz]
  exact ⟨⟨_, he, rfl⟩, h _ he ⟨_, Heap.get?_push_of_some _ (Heap.get?_push_size _ rfl), rfl, rfl⟩ (by rw [Heap.size_push, hz])
    fun b o x => Heap.get?_push_of_some _ (Heap.get?_push_of_some _ x)⟩
theorem next_enumT_end {prog : Program} {w : World} {A : Around} {E : Value → Shared → Prop} {s : Shared} {e it l : Addr} {i : Nat} {n : Int} {its : Array Value} {old : Value} {Q : Option Value → Shared → Prop}
    (hh : A.handled = none) (he : IsEnum s.heap e it n old) (hit : s.heap.IsTupleIter it l i) (hl : s.heap.IsTuple l its) (hx : its[i]? = none)
    (hQ : ∀ h', Heap.ExtBut it s.heap h' → Q none { s with heap := h' }) : wpAny (model prog w) A (pyNext (.ref e)) Q E s := by
  have ty : s.TypeIs (.ref e) "enumerate" := ⟨_, he, rfl⟩
  unfold pyNext
  refine wpAny_bind (wpAny_attempt ?_)
  refine wpAny_callSpecial?_slot (name := Str.ofString "__next__") ty F.slot_enumerate_next ?_
  refine wpAny_call_entry F.slot_enumerate_next ty F.entry_enumerate_next ?_ (F.args_enumerate_next_1 _)
  show wpAny _ _ (field (.ref e) 2 >>= _) _ _ s
  refine wpAny_bind (wpAny_field he rfl (x := .ref it) rfl ?_)
  refine wpAny_bind (wpAny_nextOf_tuple_end hh hit hl hx fun h' z hk hz => ?_)
  obtain ⟨oz, hoz, hcz⟩ := hz
  exact wpAny_bind (wpAny_isInstance (T := "StopIteration") (b := true) ⟨oz, hoz, hcz⟩ isSubtype_stop (wpAny_pure (hQ _ hk)))
/-- the tuple at a, each item in a new pair -/
def IteT (K : PySem.W.Frag) (a : Addr) : It where
  go := fun i H => ∃ (xs : List V) (x : V), SqT K H a xs ∧ xs[i]? = some x
  yld := fun i H v H' => ∃ T x, v = .ref T ∧ H T = none ∧ H' = upd H T (.tup [.int (i : Nat), x]) ∧ ∀ xs, SqT K H a xs → xs[i]? = some x
  stop := fun i H => ∃ xs : List V, SqT K H a xs ∧ xs.length ≤ i
theorem turn_enumT {P : Program} {w : World} {K : PySem.W.Frag} {elts : List Expr} {kk : Nat} {tpos : Pos} (a e it : Addr) (hae : a ≠ it) (hae2 : a ≠ e) :
    Turn P w K (.Tuple elts kk tpos) (IteT K a) [e, it] e (fun i h => (∃ old, IsEnum h e it ((i : Nat) : Int) old) ∧ h.IsTupleIter it a i ∧ e ≠ it) where
  mem := by simp
  obj := fun i h st b hb => by
    obtain ⟨⟨old, he⟩, ⟨o, ho, hc, hd⟩, _⟩ := st
    rcases (show b = e ∨ b = it by simpa using hb) with z | z
    · exact z ▸ ⟨_, he, fun v q => nomatch q⟩
    · exact z ▸ ⟨o, ho, fun v q => by rw [hd] at q; cases q⟩
  keep := fun i h h' st k => ⟨st.1.imp fun old he => k e (by simp) _ he, st.2.1.at fun o q => k it (by simp) o q, st.2.2⟩
  item := by
    intro X hP hw hK hc i pins s σ H E I hf st hg
    subst hP hw hK
    obtain ⟨⟨old, he⟩, hit, hne⟩ := st
    obtain ⟨xs, x, hq, hx⟩ := hg
    obtain ⟨its, rv, p, hz⟩ := I.tuple hq
    obtain ⟨u, hu, ru⟩ := rv.get hx
    have hel : e < s.heap.objs.size := Heap.lt_size he
    have hil : it < s.heap.objs.size := by obtain ⟨_, q, _⟩ := hit; exact Heap.lt_size q
    have hlt : i < its.toArray.size := by
      have := (List.getElem?_eq_some_iff.mp hu).1
      simpa using this
    have hef : e ∉ [it, a] := by
      intro m
      rcases (show e = it ∨ e = a by simpa using m) with z | z
      · exact hne z
      · exact hae2 z.symm
    refine wpAny_pyNext_enum_itemD (Draws.tuple (A := X.A.in1) (show X.A.in1.handled = none from I.ok.hd hc) it a hae its.toArray) he ⟨hit, p⟩ hlt hne hef fun y h' tk hy ho hit' hT hsz hk => ?_
    have ey : y = u := by
      have h1 : its[i]? = some y := by simpa using hy
      rw [hu] at h1
      exact (Option.some.inj h1).symm
    subst ey
    refine ⟨_, rfl, wpAny_letOwnedTupleGo_enum (s := { s with heap := h', toks := tk + 1 }) ho fun h'' he' sb => ?_⟩
    have hT2 : h''.get? s.heap.objs.size = some { cls := .type "tuple", data := .seq #[.int i tk, y] } := (sb.2 _ (Nat.ne_of_gt hel)).trans hT
    have new : ObjOk X.prog X.w (upd H s.heap.objs.size (.tup [.int (i : Nat), x])) h'' s.heap.objs.size (.tup [.int (i : Nat), x]) :=
      ⟨by show 2 ≤ sizeLine; decide, [.int i tk, y], .cons ⟨_, rfl⟩ (.cons ru .nil), ⟨_, hT2, rfl, _, rfl⟩⟩
    have I1 : Inv X pins σ (upd H s.heap.objs.size (.tup [.int (i : Nat), x])) { s with heap := h'', toks := tk + 1 } :=
      I.turnedNew (ch := [e, it]) (fun b ob hb q => by
        have nb : b ≠ e ∧ b ≠ it := by simpa using hb
        exact (sb.2 b nb.1).trans (hk b ob nb.1 nb.2 q)) hf (Nat.le_refl _) new
    refine ⟨.ref s.heap.objs.size, _, I1, rfl, ⟨_, x, rfl, I.hok.fresh (Nat.le_refl _), rfl, fun ys hy => by rw [I.tuple_inj hy hq]; exact hx⟩, ⟨⟨y, ?_⟩, hit'.1.at fun o q => (sb.2 it (Ne.symm hne)).trans q, hne⟩, fun b hb => ?_⟩
    · rw [show ((i + 1 : Nat) : Int) = (i : Int) + 1 by omega]
      exact he'
    · have hb' : b < s.heap.objs.size := by
        rcases (show b = e ∨ b = it by simpa using hb) with z | z
        · exact z ▸ hel
        · exact z ▸ hil
      rw [upd_ne (Nat.ne_of_lt hb')]
      exact (hf b hb).1
  done := by
    intro X hP hw hK hc i pins s σ H E I hf st hg
    subst hP hw hK
    obtain ⟨⟨old, he⟩, hit, hne⟩ := st
    obtain ⟨xs, hq, hx⟩ := hg
    obtain ⟨its, rv, p, hz⟩ := I.tuple hq
    obtain ⟨f0, f1, f2, f3, f4, f5⟩ := hf it (by simp)
    have hl := rv.length
    exact next_enumT_end (I.ok.hd hc) he hit p (by simp; omega) fun h' eb => ⟨rfl, I.turned (t' := s.toks) (fun b o hb q => eb b o hb q) f0 f1 f3 f4 f5⟩
  self := fun A i s Q E st h => by
    obtain ⟨⟨_, he⟩, _⟩ := st
    exact wpAny_pyIter_enum he h
def iEnumT (K : PySem.W.Frag) (ta : TA) : TI := fun σ H R => ta σ H fun vs H1 => ∃ a xs, vs = [.ref a] ∧ SqT K H1 a xs ∧ R (IteT K a) H1
theorem pi_enumT {X : Cx} {e : Expr} {ta : TA} {p pos tpos : Pos} {elts : List Expr} {kk : Nat} (hg : Gl X "enumerate") (hm : X.mg "enumerate" = none) (ha : PA X [e] ta)
    (hs : starEach [e] X.env = [(false, eval e X.env)] := by rfl) : PI X (.Tuple elts kk tpos) (.Call (.Name "enumerate" p) [e] [] pos) (iEnumT X.K ta) := by
  refine ⟨fun pins s σ H R I h => ?_⟩
  refine Call_ (ld_blt I hg hm boot_enumerate (callWith_type1 (thn (ha.run pos pins s σ H _ I h) fun us s1 ⟨vs, H1, I1, r1, q1⟩ => ?_) hs rfl))
  obtain ⟨a, xs, ex, hq, q⟩ := q1
  subst ex
  cases r1 with
  | cons r rr =>
    cases rr
    cases r
    obtain ⟨its, rv, pt, hz⟩ := I1.tuple hq
    have hal : a < s1.heap.objs.size := by
      obtain ⟨o, ho, _⟩ := id pt
      exact Heap.lt_size ho
    refine call_enumT (its := its.toArray) pt fun h' he hit hsz hk => wpAny_pyIter_enum he ?_
    have I2 : Inv X pins σ H1 { s1 with heap := h' } := I1.kept (t' := s1.toks) hk
    refine ⟨s1.heap.objs.size + 1, [s1.heap.objs.size + 1, s1.heap.objs.size], _, _, H1, rfl, I2, turn_enumT a (s1.heap.objs.size + 1) s1.heap.objs.size (Nat.ne_of_lt hal) (Nat.ne_of_lt (Nat.lt_succ_of_lt hal)), ⟨⟨.none, he⟩, hit, Nat.succ_ne_self _⟩, fun b hb => ?_, q⟩
    have hle : s1.heap.objs.size ≤ b := by
      rcases (show b = s1.heap.objs.size + 1 ∨ b = s1.heap.objs.size by simpa using hb) with z | z
      · exact z ▸ Nat.le_succ _
      · exact z ▸ Nat.le_refl _
    exact I1.fpOk hle (I1.hok.fresh hle)
theorem walk_enumT {K : PySem.W.Frag} {a : Addr} {xs : List V} : Walk (IteT K a) xs.length (fun H => SqT K H a xs) (YPair (fun i => some (.int (i : Nat))) (fun i => xs[i]?)) := by
  refine ⟨fun i _ hi q => ⟨xs, xs[i], q, by simp [hi]⟩, fun _ q => ⟨xs, q, Nat.le_refl _⟩, fun i H v H' _ q y => ?_⟩
  obtain ⟨T, x, h1, h2, h3, h4⟩ := y
  exact ⟨T, .int (i : Nat), x, h1, h2, h3, rfl, h4 xs q⟩
end Nf

set_option Elab.async false
set_option linter.all false
set_option maxRecDepth 100000
namespace Nf
open PySem PySem.Spec PyProof.Rows L2
/-! ### tuple of a dict's keys -/
section
variable {prog : Program} {w : World} {A : Around} {E : Value → Shared → Prop} {s : Shared} {r d : Addr} {n : Nat} {TT : String} {P : Nat → Value → Prop} {OK : Heap → Prop}
theorem code_tup_src {Q : Value → Shared → Prop} (S : PySem.W.KdlSrc prog w TT r d n P OK) (hh : A.handled = none) (hok : OK s.heap) (hn : n ≤ sizeLine)
    (h : ∀ (h' : Heap) (tk : Nat) (acc : Array Value), (∀ b o, s.heap.get? b = some o → h'.get? b = some o) → ItemsOf P acc n →
      Q (.ref h'.objs.size) { s with heap := h'.push { cls := .type "tuple", data := .seq acc }, toks := tk }) :
    codeAny (model prog w) A (.call (.builtin "tuple.__new__") ⟨[.type "tuple", .ref r], []⟩) (wants Q E) s := by
  refine codeAny_of_tree ?_
  show wpAny _ A.in1 (do
    checkBuiltinCall "tuple.__new__" ⟨[.type "tuple", .ref r], []⟩
    again (.builtin "tuple.__new__" ⟨[.type "tuple", .ref r], []⟩)) _ _ s
  refine wpAny_bind (wpAny_of_eq (F.newCall_tuple_1 _) ?_)
  refine wpAny_pure ⟨plainId_quiet F.plain_tuple_new _, codeAny_builtin F.entry_tuple_new ?_⟩
  rw [Around.under_plainId F.plain_tuple_new _]
  have s1 := sub_tuple_self
  have s2 := init_tuple_lookup
  have s3 := madeHere_tuple
  have ty := S.type s hok
  have nt : TT ≠ "tuple" := fun e => by
    have q := S.notTuple
    rw [e] at q
    exact absurd q (by decide)
  have nt2 := S.notTuple
  have hh1 : A.in1.handled = none := hh
  wp_walk using wpAny_typeOf ty, PySem.W.kdu_collect (A := A.in1) S hh1 hok hn
  intro h' tk acc hk hacc
  show wpAny _ _ (Builtin.Tuple.tupleExact acc.toList.toArray >>= fun v => ret v) _ _ _
  unfold Builtin.Tuple.tupleExact
  have e : acc.toList.toArray = acc := by simp
  rw [e]
  refine wpAny_bind (wpAny_newObj_type (wpAny_pure (h h' tk acc hk hacc)) ?_)
  show acc.size ≤ sizeLine
  rw [hacc.1]
  exact hn
theorem call_tup_src {Q : Value → Shared → Prop} (S : PySem.W.KdlSrc prog w TT r d n P OK) (hh : A.handled = none) (hok : OK s.heap) (hn : n ≤ sizeLine)
    (h : ∀ (h' : Heap) (tk : Nat) (acc : Array Value), (∀ b o, s.heap.get? b = some o → h'.get? b = some o) → ItemsOf P acc n →
      Q (.ref h'.objs.size) { s with heap := h'.push { cls := .type "tuple", data := .seq acc }, toks := tk }) :
    wpAny (model prog w) A (call (.type "tuple") [.ref r]) Q E s := by
  refine callType_codes (Q₁ := fun obj z => z.TypeIs obj "tuple" ∧ Q obj z) F.called_tuple (F.typeCall_tuple_1 _) F.entry_object_init ?_ fun obj z hz => ?_
  · exact code_tup_src (A := A.in1) S hh hok hn fun h' tk acc hk hacc => ⟨⟨_, Heap.get?_push_size _ rfl, rfl⟩, h h' tk acc hk hacc⟩
  · exact ⟨hz.1, F.args_object_init_2 obj _, object_init_meets F.called_tuple.init.lookup F.called_tuple.made (by decide) prog w A.in1 _ z ⟨hz.1, rfl, hz.2⟩⟩
end
def rTupD : List V → Hp → VK → Prop := fun xs H Q => ∃ p kvs, xs = [.ref p] ∧ H p = some (.dK kvs) ∧ ∀ q, H q = none → Q (.ref q) (upd H q (.tup (kvs.map fun kv => kV kv.1)))
theorem call_tup_dK {X : Cx} (hc : X.calm = true) : CallR X (.type "tuple") rTupD := by
  intro pins s σ H xs us Q I r h
  obtain ⟨p, kvs, rfl, hk, q⟩ := h
  obtain ⟨u, rfl, rx⟩ := vals1 r
  obtain rfl : u = Value.ref p := rx
  obtain ⟨z, lo, vs, rk, hd⟩ := (show ObjOk X.prog X.w H s.heap p (.dK kvs) from I.hok p _ hk)
  obtain ⟨ep, hat⟩ := hd.dictAt
  have hl : kvs.length = vs.length := Paired.length rk
  refine call_tup_src (PySem.W.kdl_dict (knd := mixKind X.prog X.w) (kvs := vs) (ep := ep) lo) (I.ok.hd hc) hat (hl ▸ z) fun h' tk acc hkeep hacc => ?_
  have I1 : Inv X pins σ H { s with heap := h', toks := tk } := I.kept (t' := tk) hkeep
  refine ⟨.ref h'.objs.size, upd H h'.objs.size (.tup (kvs.map fun kv => kV kv.1)), I1.laid (t' := tk) (fun b o e => Heap.get?_push_of_some _ e) (Nat.le_refl _) ?_, rfl, q _ (I1.hok.fresh (Nat.le_refl _))⟩
  refine (show ObjOk X.prog X.w _ _ _ (.tup (kvs.map fun kv => kV kv.1)) from ⟨by rw [List.length_map]; exact z, acc.toList, ?_, ?_⟩)
  · have el : acc.toList.length = acc.size := by simp
    refine vals_of_at (by rw [List.length_map, el, hacc.1, hl]) fun j x y h1 h2 => ?_
    obtain ⟨k, m, hky, hi⟩ := hacc.2 j y (by rw [← Array.getElem?_toList]; exact h2)
    have e1 : (kvs.map (·.1))[j]? = some k := by
      rw [KV.keys rk, List.getElem?_map, hky] <;> rfl
    rw [List.getElem?_map] at h1 e1
    obtain ⟨kv, hkv, rfl⟩ := Option.map_eq_some_iff.mp h1
    rw [hkv] at e1
    cases e1
    exact keyIs_rel hi
  · rw [Array.toArray_toList]
    exact IsTup.new _ _
/-! ### y = {k: v for ..} -/
section
variable {X : Cx}
theorem ps_setDc {i : Nat} {y : Str} {py : Pos} {kx vx tg iter : Expr} {ifs : List Expr} {scope : Scope} {own : List (Str × Nat)} {pos spos : Pos} {wi : TI} {g : TG} {tt : TT} {tk tv : TE}
    (hc : X.calm = true) (hN : X.N.Nodup) (hy : X.N[i]? = some y) (hyl : X.env.scope.names.lookup y = some .local)
    (hsw : swapsWith (.DictComp kx vx [⟨tg, iter, ifs, 0⟩] scope pos) (some (.Name y py)) spos.line X.env = pure true)
    (hi : PI X tg iter wi) (ok : BlkOk X.N X.env.scope scope own)
    (hg : ∀ (z : Shared) (H : Hp) (C : Addr) (cl : List (Str × Addr)) (fp : List Addr), PG (X.blk z H scope (compEnvC scope cl C X.env) fp) tg g)
    (ht : ∀ (z : Shared) (H : Hp) (C : Addr) (cl : List (Str × Addr)) (fp : List Addr), PTs (X.blk z H scope (compEnvC scope cl C X.env) fp) ifs tt)
    (hk : ∀ (z : Shared) (H : Hp) (C : Addr) (cl : List (Str × Addr)) (fp : List Addr), PE (X.blk z H scope (compEnvC scope cl C X.env) fp) kx tk)
    (he : ∀ (z : Shared) (H : Hp) (C : Addr) (cl : List (Str × Addr)) (fp : List Addr), PE (X.blk z H scope (compEnvC scope cl C X.env) fp) vx tv)
    (hs : ∀ x, foldedSetIterable iter X.env x = pure x := by intro _; rfl) :
    PS X (.Assign [.Name y py] (.DictComp kx vx [⟨tg, iter, ifs, 0⟩] scope pos) spos) (tAsg (tDc wi g tt tk tv (own.map (·.2))) (gName i)) := by
  refine ⟨fun pins s σ H D I h => ?_⟩
  rw [exec_Assign_Name_used _ _ _ _ hsw]
  refine wpAny_bind (wpAny_standAt (wpAny_bind ?_))
  show wpAny _ X.A (do
    let _ ← comprehension (.DictComp kx vx [⟨tg, iter, ifs, 0⟩] scope pos) scope X.env (firstIterPos [⟨tg, iter, ifs, 0⟩] pos) newDict false (eval iter X.env) (some (assign (.Name y py) X.env))) _ _ s
  have h' : tDc wi g tt tk tv (own.map (·.2)) σ H (fun x H1 => gName i x σ H1 D.nx) := h
  refine wpAny_bind (thn (dc_core (Qf := fun _ z => SP X pins D .next z) hc hN I hi ok hg ht hk he hs h' fun L C z m H' I' q hn f => ?_) fun _ z hq => wpAny_pure (wpAny_pure hq))
  show wpAny _ _ (assign (.Name y py) X.env (.ref L)) _ _ _
  refine wpAny_assign_Name (store_ok2 (v := V.ref L) I' hN hy (.inl hyl) rfl (fun z2 I2 ⟨a, sb, ha⟩ => ?_) (.inr hyl))
  obtain ⟨f0, f1, f2, f3, f4, f5⟩ := f
  have haC : C ≠ a := by
    rcases ha with e | e
    · exact e ▸ f1
    · exact fun e' => f4 y a e e'.symm
  exact ⟨m, hn.sameBut sb haC, fun h3 sb3 => ⟨_, H', I2.turned (t' := z2.toks) (fun b o hb e => (sb3.2 b hb).trans e) f0 f1 f3 f4 f5, q⟩⟩
theorem sw_trueD {kx vx : Expr} {gs : List Comprehension} {scope : Scope} {pos py : Pos} {y : Str} {l : Nat} {env : Env} (hk : env.scope.kind = .function) (hy : env.scope.names.lookup y = some .local) (hl : (py.line == pos.line) = true)
    (ha : (scope.names.any fun (n, k) => n == y && (k == .local || k == .cell)) = false) : swapsWith (.DictComp kx vx gs scope pos) (some (.Name y py)) l env = pure true := by
  have k1 : env.kindOf y = some .local := hy
  have k2 : env.blockKind = .function := by
    unfold Env.blockKind
    rw [hk]
    rfl
  unfold swapsWith
  simp only [k2, k1, ha, Expr.pos, hl]
  rfl
end
/-! ### xs != [] -/
def rNeNil (K : PySem.W.Frag) : R2 := fun x y H Q => ∃ a b xs, x = .ref a ∧ y = .ref b ∧ SqL K H a xs ∧ SqL K H b [] ∧ Q (.bl (!xs.isEmpty)) H
theorem op_ne_nil {X : Cx} (hu : X.A.units < cLine) : OpR X (compareOp .NotEq) (rNeNil X.K) := by
  intro pins s σ H x y v u Q I rx ry h
  obtain ⟨a, b, xs, rfl, rfl, ha, hb, q⟩ := h
  cases rx
  cases ry
  obtain ⟨i1, r1, p1, _⟩ := I.list ha
  obtain ⟨i2, r2, p2, _⟩ := I.list hb
  cases r2
  cases r1 with
  | nil => exact SeqAt.RcNeAt.lists (e := fun _ => true) p1.isList p2.isList rfl hu (fun j h1 _ => absurd h1 (by simp)) X.prog X.w _ _ ⟨.bl false, H, I, rfl, q⟩
  | cons r rr => exact SeqAt.RcNeAt.lists_lengths p1.isList p2.isList (by simp) hu X.prog X.w _ _ ⟨.bl true, H, I, rfl, q⟩
end Nf

set_option Elab.async false
set_option linter.all false
set_option maxRecDepth 100000
namespace Nf
open PySem L2
/-! ### a while with a ghost that falls -/
theorem while_g {α : Type} {c : TT} {tb : TS} {D : Ends} {σ : L2.St} {H : Hp} (Pv : α → L2.St → Hp → Prop) (μ : α → Nat) (x0 : α) (h0 : Pv x0 σ H)
    (hs : ∀ x σ H, Pv x σ H → c σ H fun b H1 => if b = true then ∃ N : L2.St → Hp → Prop, (∀ σ' H', N σ' H' → ∃ m', m' < μ x ∧ ∃ y, μ y = m' ∧ Pv y σ' H') ∧ tb { D with nx := N, ct := N, bk := D.nx } σ H1 else D.nx σ H1) : tWhile c tb D σ H := by
  refine ⟨fun m σ H => ∃ x, μ x = m ∧ Pv x σ H, ⟨_, x0, rfl, h0⟩, ?_⟩
  rintro m σ H ⟨x, rfl, p⟩
  exact hs x σ H p
theorem seq_in {t1 t2 : TS} {D : Ends} {σ : L2.St} {H : Hp} (h : t1 { D with nx := t2 D } σ H) : tSeq t1 t2 D σ H := h
theorem next_in {D : Ends} {σ : L2.St} {H : Hp} (h : D.nx σ H) : tNext D σ H := h
theorem stp_g {α : Type} {tb : TS} {D : Ends} {σ : L2.St} {H1 : Hp} {Pv : α → L2.St → Hp → Prop} {μ : α → Nat} {x : α}
    (h : tb { D with nx := fun σ' H' => ∃ y, μ y < μ x ∧ Pv y σ' H', ct := fun σ' H' => ∃ y, μ y < μ x ∧ Pv y σ' H', bk := D.nx } σ H1) :
    ∃ N : L2.St → Hp → Prop, (∀ σ' H', N σ' H' → ∃ m', m' < μ x ∧ ∃ y, μ y = m' ∧ Pv y σ' H') ∧ tb { D with nx := N, ct := N, bk := D.nx } σ H1 :=
  ⟨_, fun _ _ ⟨y, h1, h2⟩ => ⟨μ y, h1, y, rfl, h2⟩, h⟩
/-! ### nodes -/
abbrev Nd := List Int × Say
mutual
def Say.nod (p : List Int) : Say → List Nd
  | .name x => [(p, .name x)]
  | .skip => [(p, .skip)]
  | .app c w ps => (p, .app c w ps) :: Say.nodA p 0 ps
  | .two c a b => (p, .two c a b) :: (Say.nod (p ++ [0]) a ++ Say.nod (p ++ [1]) b)
def Say.nodA (p : List Int) (k : Nat) : List Say → List Nd
  | [] => []
  | s :: r => Say.nod (p ++ [(k : Int)]) s ++ Say.nodA p (k + 1) r
end
/-- the parts with their paths -/
def kids (p : List Int) : Nat → List Say → List Nd
  | _, [] => []
  | k, s :: r => (p ++ [(k : Int)], s) :: kids p (k + 1) r
def ndAll (st : List Nd) : List Nd := st.flatMap fun q => q.2.nod q.1
theorem nodA_kids (p : List Int) : ∀ (k : Nat) (ps : List Say), Say.nodA p k ps = ndAll (kids p k ps)
  | _, [] => by simp [Say.nodA, kids, ndAll]
  | k, s :: r => by
    simp only [Say.nodA, kids, ndAll, List.flatMap_cons]
    rw [nodA_kids p (k + 1) r]
    rfl
theorem nod_eq (p : List Int) (s : Say) : s.nod p = (p, s) :: ndAll (kids p 0 s.parts) := by
  cases s with
  | name x => simp [Say.nod, Say.parts, kids, ndAll]
  | skip => simp [Say.nod, Say.parts, kids, ndAll]
  | app c w ps => simp only [Say.nod, Say.parts, nodA_kids]
  | two c a b => simp [Say.nod, Say.parts, kids, ndAll]
theorem ndAll_cons {q : Nd} {r : List Nd} : ndAll (q :: r) = q :: ndAll (kids q.1 0 q.2.parts ++ r) := by
  show q.2.nod q.1 ++ ndAll r = _
  rw [nod_eq]
  unfold ndAll
  rw [List.flatMap_append]
  rfl
theorem kids_len (p : List Int) : ∀ (k : Nat) (ps : List Say), (kids p k ps).length = ps.length
  | _, [] => rfl
  | k, _ :: r => by simp only [kids, List.length_cons, kids_len p (k + 1) r]
theorem kids_get (p : List Int) : ∀ (k : Nat) (ps : List Say) (i : Nat), (kids p k ps)[i]? = (ps[i]?).map fun s => (p ++ [((k + i : Nat) : Int)], s)
  | _, [], i => by simp [kids]
  | k, s :: r, 0 => by simp [kids]
  | k, s :: r, i + 1 => by
    simp only [kids, List.getElem?_cons_succ, kids_get p (k + 1) r i]
    rw [show k + 1 + i = k + (i + 1) by omega]
theorem kids_mem {p : List Int} {k : Nat} {ps : List Say} {q : Nd} (h : q ∈ kids p k ps) : q.2 ∈ ps := by
  obtain ⟨i, hi⟩ := List.getElem?_of_mem h
  rw [kids_get] at hi
  obtain ⟨s, hs, rfl⟩ := Option.map_eq_some_iff.mp hi
  exact List.mem_of_getElem? hs
def ndDa (q : Nd) : Da := .tup [.tup (q.1.map Da.int), q.2.da]
def ndsDa (l : List Nd) : Da := .tup (l.map ndDa)
theorem is_nd {H : Hp} {v : V} {q : Nd} (h : Is H v (ndDa q)) : ∃ a b y xs, v = .ref a ∧ H a = some (.tup [.ref b, y]) ∧ H b = some (.tup xs) ∧ IsA H xs (q.1.map Da.int) ∧ Is H y q.2.da := by
  cases h with
  | @tup a xs _ h1 h2 =>
    cases h2 with
    | cons p1 q1 =>
      cases q1 with
      | cons p2 q2 =>
        cases q2
        cases p1 with
        | tup h3 h4 => exact ⟨a, _, _, _, rfl, h1, h3, h4, p2⟩
/-- how many nodes a saying has, told by its depth -/
theorem nod_len {f : Str → Prop} : ∀ {n : Nat} {s : Say} (p : List Int), Say.ok f n s → (s.nod p).length ≤ 4 ^ n
  | 0, _, _, h => h.elim
  | n + 1, s, p, h => by
    rw [nod_eq, List.length_cons]
    have h3 := Say.parts_le h
    have ho := Say.ok_parts h
    have key : ∀ (k : Nat) (ps : List Say), (∀ q ∈ ps, Say.ok f n q) → (ndAll (kids p k ps)).length ≤ ps.length * 4 ^ n := by
      intro k ps
      induction ps generalizing k with
      | nil => intro _; simp [kids, ndAll]
      | cons s r ih =>
        intro hq
        have e : ndAll (kids p k (s :: r)) = s.nod (p ++ [(k : Int)]) ++ ndAll (kids p (k + 1) r) := rfl
        rw [e, List.length_append, List.length_cons, Nat.succ_mul]
        have h1 := nod_len (p ++ [(k : Int)]) (hq s (by simp))
        have h2 := ih (k + 1) fun q hm => hq q (by simp [hm])
        omega
    have h1 := key 0 s.parts ho
    have h2 : s.parts.length * 4 ^ n ≤ 3 * 4 ^ n := Nat.mul_le_mul_right _ h3
    have h4 : 0 < 4 ^ n := Nat.pow_pos (by decide)
    rw [Nat.pow_succ]
    omega
/-- paths are no longer than the depth -/
theorem nod_dep {f : Str → Prop} : ∀ {n : Nat} {s : Say} (p : List Int), Say.ok f n s → ∀ q ∈ s.nod p, q.1.length < p.length + n ∧ Say.ok f n q.2
  | 0, _, _, h => h.elim
  | n + 1, s, p, h => by
    rw [nod_eq]
    intro q hq
    rcases List.mem_cons.mp hq with rfl | hq
    · exact ⟨by show p.length < p.length + (n + 1); omega, h⟩
    · unfold ndAll at hq
      obtain ⟨z, hz, hqz⟩ := List.mem_flatMap.mp hq
      have ho := Say.ok_parts h z.2 (kids_mem hz)
      obtain ⟨i, hi⟩ := List.getElem?_of_mem hz
      rw [kids_get] at hi
      obtain ⟨s', _, rfl⟩ := Option.map_eq_some_iff.mp hi
      have := nod_dep (n := n) _ ho q hqz
      rw [List.length_append] at this
      exact ⟨by have := this.1; simp at this; omega, Say.ok_mono (by omega) this.2⟩
theorem nds_dep {f : Str → Prop} {n : Nat} {s : Say} (h : Say.ok f n s) (hn : n ≤ 8) : Da.dep (2 * n + 4) (ndsDa (s.nod [])) := by
  unfold ndsDa
  refine ⟨?_, fun d hd => ?_⟩
  · rw [List.length_map]
    have h1 := nod_len [] h
    have h2 : 4 ^ n ≤ 4 ^ 8 := Nat.pow_le_pow_right (by decide) hn
    have h3 : 4 ^ 8 = 65536 := by decide
    omega
  · obtain ⟨q, hq, rfl⟩ := List.mem_map.mp hd
    obtain ⟨h1, h2⟩ := nod_dep [] h q hq
    refine ⟨by simp, fun d hd => ?_⟩
    simp at hd
    rcases hd with rfl | rfl
    · refine ⟨by rw [List.length_map]; simp at h1; omega, fun d hd => ?_⟩
      obtain ⟨i, _, rfl⟩ := List.mem_map.mp hd
      exact True.intro
    · exact Say.dep h2
/-! ### names, each once -/
def uadd (acc : List Str) (x : Str) : List Str := if x ∈ acc then acc else acc ++ [x]
def nmOf (q : Nd) : Option Str := match q.2 with
  | .name x => some x
  | _ => none
def ustep (acc : List Str) (q : Nd) : List Str := match nmOf q with
  | some x => uadd acc x
  | none => acc
def unames (l : List Nd) : List Str := l.foldl ustep []
theorem uadd_len (acc : List Str) (x : Str) : (uadd acc x).length ≤ acc.length + 1 := by
  unfold uadd
  split
  · omega
  · simp
theorem ustep_len (acc : List Str) (q : Nd) : (ustep acc q).length ≤ acc.length + 1 := by
  unfold ustep
  split
  · exact uadd_len _ _
  · omega
theorem unames_take {l : List Nd} {i : Nat} {q : Nd} (h : l[i]? = some q) : unames (l.take (i + 1)) = ustep (unames (l.take i)) q := by
  unfold unames
  rw [List.take_add_one, h]
  show List.foldl ustep [] (List.take i l ++ [q]) = _
  rw [List.foldl_append]
  rfl
theorem unames_len (l : List Nd) : (unames l).length ≤ l.length := by
  have key : ∀ (l : List Nd) (acc : List Str), (l.foldl ustep acc).length ≤ acc.length + l.length := by
    intro l
    induction l with
    | nil => intro acc; simp
    | cons q r ih =>
      intro acc
      have h1 := ih (ustep acc q)
      have h2 := ustep_len acc q
      simp only [List.foldl_cons, List.length_cons]
      omega
  have := key l []
  simpa [unames] using this
def strsDa (xs : List Str) : Da := .tup (xs.map Da.str)
theorem isA_strs {H : Hp} : ∀ xs : List Str, IsA H (xs.map V.str) (xs.map Da.str)
  | [] => .nil
  | x :: r => .cons (.str x) (isA_strs r)
theorem isA_ints {H : Hp} : ∀ xs : List Int, IsA H (xs.map V.int) (xs.map Da.int)
  | [] => .nil
  | x :: r => .cons (.int x) (isA_ints r)
theorem ints_of {H : Hp} : ∀ {vs : List V} {xs : List Int}, IsA H vs (xs.map Da.int) → vs = xs.map V.int
  | _, [], h => by cases h; rfl
  | _, x :: r, h => by
    cases h with
    | cons a b => cases a; rw [ints_of b]; rfl
theorem IsA.snoc_inv {H : Hp} : ∀ {ws : List V} {ds : List Da} {d : Da}, IsA H ws (ds ++ [d]) → ∃ ws0 w, ws = ws0 ++ [w] ∧ IsA H ws0 ds ∧ Is H w d
  | _, [], d, h => by
    cases h with
    | cons a b => cases b; exact ⟨[], _, rfl, .nil, a⟩
  | _, e :: r, d, h => by
    cases h with
    | @cons v vs _ _ a b =>
      obtain ⟨ws0, w, rfl, h1, h2⟩ := IsA.snoc_inv (ds := r) b
      exact ⟨v :: ws0, w, rfl, .cons a h1, h2⟩
theorem IsA.rev {H : Hp} : ∀ {ws : List V} {ds : List Da}, IsA H ws ds → IsA H ws.reverse ds.reverse
  | _, _, .nil => .nil
  | _, _, .cons a b => by
    rw [List.reverse_cons, List.reverse_cons]
    exact (IsA.rev b).app (.cons a .nil)
theorem ndAll_ge : ∀ st : List Nd, st.length ≤ (ndAll st).length
  | [] => Nat.zero_le _
  | q :: r => by
    have := ndAll_ge r
    have e : ndAll (q :: r) = q.2.nod q.1 ++ ndAll r := rfl
    rw [e, nod_eq, List.length_append, List.length_cons, List.length_cons]
    omega
def keyT (x : Str) : Key × V := (Sum.inr x, .bl true)
theorem put_keyT (us : List Str) (x : Str) : putK (us.map keyT) (Sum.inr x) (.bl true) = (uadd us x).map keyT := by
  have e1 : ((us.map keyT).any fun kv => decide (kv.1 = (Sum.inr x : Key))) = decide (x ∈ us) := by
    induction us with
    | nil => rfl
    | cons y r ih =>
      rw [List.map_cons, List.any_cons, ih]
      have e2 : decide ((keyT y).1 = (Sum.inr x : Key)) = decide (y = x) := by
        show decide ((Sum.inr y : Key) = Sum.inr x) = _
        exact key_rr y x
      rw [e2]
      by_cases h : y = x
      · subst h; simp
      · have h' : ¬ x = y := fun z => h z.symm
        simp [h, h']
  unfold putK uadd
  rw [e1]
  by_cases h : x ∈ us
  · rw [if_pos h, if_pos (decide_eq_true h), List.map_map]
    refine List.map_congr_left fun y _ => ?_
    show (if (keyT y).1 = (Sum.inr x : Key) then ((keyT y).1, V.bl true) else keyT y) = keyT y
    split <;> rfl
  · rw [if_neg h, if_neg (by simpa using h), List.map_append]
    rfl
end Nf

set_option Elab.async false
set_option linter.all false
set_option maxRecDepth 100000
namespace Nf
open PySem PySem.Spec PyProof.Rows L2
/-! ### list(zip(t, u)) of two tuples of one length -/
theorem zip_len_none : typeLookup (.type "zip") "__len__" = pure none := am_miss_of_fast (by decide +kernel)
theorem zip_hint_none : typeLookup (.type "zip") "__length_hint__" = pure none := am_miss_of_fast (by decide +kernel)
section
variable {prog : Program} {w : World} {A : Around} {E : Value → Shared → Prop} {s : Shared}
/-- next, while the pair given out before is still there -/
theorem zt_item {z TI TO T i j t u : Addr} {f : Bool} {oT : Obj} {k : Nat} {xs ys : Array Value} {x y : Value} {Q : Option Value → Shared → Prop} (D : ZipApart z TI TO i j t u)
    (hz : IsZipHeld s.heap z TI TO T f) (hT : s.heap.get? T = some oT) (hTI : IsPair s.heap TI (.ref i) (.ref j))
    (hi : s.heap.IsTupleIter i t k) (hj : s.heap.IsTupleIter j u k) (ht : s.heap.IsTuple t xs) (hu : s.heap.IsTuple u ys) (hx : xs[k]? = some x) (hy : ys[k]? = some y)
    (hQ : ∀ g, IsZipHeld g z TI TO T true → g.IsTupleIter i t (k + 1) → g.IsTupleIter j u (k + 1) → IsPair g s.heap.objs.size x y → g.objs.size = s.heap.objs.size + 1 →
      (∀ c o, c ≠ z → c ≠ i → c ≠ j → s.heap.get? c = some o → g.get? c = some o) → Q (some (.ref s.heap.objs.size)) { s with heap := g }) :
    wpAny (model prog w) A (pyNext (.ref z)) Q E s := by
  have ty : s.TypeIs (.ref z) "zip" := ⟨_, hz, rfl⟩
  unfold pyNext
  refine wpAny_bind (wpAny_attempt ?_)
  refine wpAny_callSpecial?_slot (name := Str.ofString "__next__") ty F.slot_zip_next ?_
  refine wpAny_call_entry F.slot_zip_next ty F.entry_zip_next ?_ (F.args_zip_next_1 _)
  show wpAny _ _ (field (.ref z) 2 >>= _) _ _ s
  refine wpAny_bind (wpAny_field hz rfl (x := .bool false) rfl ?_)
  show wpAny _ _ (field (.ref z) 3 >>= _) _ _ s
  refine wpAny_bind (wpAny_field hz rfl (x := .ref TI) rfl (wpAny_bind (wpAny_seqItems hTI rfl ?_)))
  show wpAny _ _ (Builtin.SmallTypes.ownedTupleIsFree (.ref z) >>= _) _ _ s
  refine wpAny_bind (wpAny_tupleHeld_zip hz hT fun g1 z1 s1 => ?_)
  simp only [Bool.false_eq_true, if_false]
  refine wpAny_bind ?_
  rw [← Array.forIn_toList]
  simp only [List.forIn_cons, List.forIn_nil]
  refine wpAny_bind (wpAny_bind (wpAny_holding ?_))
  show wpAny _ _ (Builtin.SmallTypes.nextOf (.ref i) >>= _) _ _ _
  refine wpAny_bind (wpAny_nextOf_tuple_item (s := { s with heap := g1 }) (hi.extBut s1.extBut D.i1z) (ht.extBut s1.extBut D.l1z) hx fun g2 i2 s2 => wpAny_pure (wpAny_pure ?_))
  refine wpAny_bind (wpAny_bind (wpAny_holding ?_))
  show wpAny _ _ (Builtin.SmallTypes.nextOf (.ref j) >>= _) _ _ _
  refine wpAny_bind (wpAny_nextOf_tuple_item (s := { s with heap := g2 }) ((hj.extBut s1.extBut D.i2z).extBut s2.extBut D.i12.symm) ((hu.extBut s1.extBut D.l2z).extBut s2.extBut D.l2i1) hy fun g3 j3 s3 => wpAny_pure (wpAny_pure (wpAny_pure ?_)))
  show wpAny _ _ (newTuple [x, y] >>= _) _ _ _
  refine wpAny_bind (wpAny_newTuple (wpAny_pure ⟨_, rfl, wpAny_pure ?_⟩))
  have sz : g3.objs.size = s.heap.objs.size := by rw [s3.1, s2.1, s1.1]
  have z3 : IsZipHeld g3 z TI TO T true := s3.extBut _ _ D.i2z.symm (s2.extBut _ _ D.i1z.symm z1)
  have kp : ∀ c o, c ≠ z → c ≠ i → c ≠ j → s.heap.get? c = some o → g3.get? c = some o := fun c o n1 n2 n3 e => s3.extBut _ _ n3 (s2.extBut _ _ n2 (s1.extBut _ _ n1 e))
  have i3 : g3.IsTupleIter i t (k + 1) := i2.extBut s3.extBut D.i12
  show Q (some (.ref g3.objs.size)) _
  have pr : IsPair (g3.push { cls := .type "tuple", data := .seq #[x, y] }) g3.objs.size x y := Heap.get?_push_size _ rfl
  have sz4 : (g3.push { cls := .type "tuple", data := .seq #[x, y] }).objs.size = g3.objs.size + 1 := Heap.size_push ..
  rw [sz] at pr sz4 ⊢
  exact hQ _ (Heap.get?_push_of_some _ z3) (i3.at fun o e => Heap.get?_push_of_some _ e) (j3.at fun o e => Heap.get?_push_of_some _ e) pr sz4
    fun c o n1 n2 n3 e => Heap.get?_push_of_some _ (kp c o n1 n2 n3 e)
theorem zt_end {z TI TO T i j t u : Addr} {f : Bool} {oT : Obj} {k : Nat} {xs : Array Value} {Q : Option Value → Shared → Prop} (hh : A.handled = none) (D : ZipApart z TI TO i j t u)
    (hz : IsZipHeld s.heap z TI TO T f) (hT : s.heap.get? T = some oT) (hTI : IsPair s.heap TI (.ref i) (.ref j))
    (hi : s.heap.IsTupleIter i t k) (ht : s.heap.IsTuple t xs) (hx : xs[k]? = none)
    (hQ : ∀ g, (∀ c o, c ≠ z → c ≠ i → c ≠ j → s.heap.get? c = some o → g.get? c = some o) → Q none { s with heap := g }) :
    wpAny (model prog w) A (pyNext (.ref z)) Q E s := by
  have ty : s.TypeIs (.ref z) "zip" := ⟨_, hz, rfl⟩
  unfold pyNext
  refine wpAny_bind (wpAny_attempt ?_)
  refine wpAny_callSpecial?_slot (name := Str.ofString "__next__") ty F.slot_zip_next ?_
  refine wpAny_call_entry F.slot_zip_next ty F.entry_zip_next ?_ (F.args_zip_next_1 _)
  show wpAny _ _ (field (.ref z) 2 >>= _) _ _ s
  refine wpAny_bind (wpAny_field hz rfl (x := .bool false) rfl ?_)
  show wpAny _ _ (field (.ref z) 3 >>= _) _ _ s
  refine wpAny_bind (wpAny_field hz rfl (x := .ref TI) rfl (wpAny_bind (wpAny_seqItems hTI rfl ?_)))
  show wpAny _ _ (Builtin.SmallTypes.ownedTupleIsFree (.ref z) >>= _) _ _ s
  refine wpAny_bind (wpAny_tupleHeld_zip hz hT fun g1 z1 s1 => ?_)
  simp only [Bool.false_eq_true, if_false]
  refine wpAny_bind ?_
  rw [← Array.forIn_toList]
  simp only [List.forIn_cons, List.forIn_nil]
  refine wpAny_bind (wpAny_bind (wpAny_holding ?_))
  show wpAny _ _ (Builtin.SmallTypes.nextOf (.ref i) >>= _) _ _ _
  refine wpAny_bind (wpAny_nextOf_tuple_end (s := { s with heap := g1 }) hh (hi.extBut s1.extBut D.i1z) (ht.extBut s1.extBut D.l1z) hx fun g2 e s2 he => ?_)
  obtain ⟨oz, hoz, hcz⟩ := he
  exact wpAny_bind (wpAny_isInstance (T := "StopIteration") (b := true) ⟨oz, hoz, hcz⟩ isSubtype_stop (wpAny_pure (hQ _ fun c o n1 n2 _ q => s2 _ _ n2 (s1.extBut _ _ n1 q))))
/-- the zip between two turns of the loop that fills the list S -/
structure ZSt (xs ys : Array Value) (z TI TO i j t u S : Addr) (k : Nat) (h : Heap) : Prop where
  st : (IsZip h z TI TO .none ∧ ∃ a b, IsPair h TO a b) ∨ ∃ T f oT, IsZipHeld h z TI TO T f ∧ h.get? T = some oT ∧ T ≠ z ∧ T ≠ i ∧ T ≠ j ∧ T ≠ S
  ti : IsPair h TI (.ref i) (.ref j)
  hi : h.IsTupleIter i t k
  hj : h.IsTupleIter j u k
  ht : h.IsTuple t xs
  hu : h.IsTuple u ys
structure ZG (xs ys : Array Value) (S : Addr) (h : Heap) (as : List Addr) : Prop where
  rise : as.Pairwise (· < ·)
  above : ∀ a ∈ as, S < a
  pairs : ∀ (m : Nat) (a : Addr), as[m]? = some a → ∃ x y, xs[m]? = some x ∧ ys[m]? = some y ∧ h.get? a = some { cls := .type "tuple", data := .seq #[x, y] }
theorem ZSt.up {xs ys : Array Value} {z TI TO i j t u S : Addr} {k : Nat} {h h' : Heap} (Z : ZSt xs ys z TI TO i j t u S k h) (nz : ∀ b ∈ [z, TI, TO, i, j, t, u], b ≠ S) (hk : ∀ b o, b ≠ S → h.get? b = some o → h'.get? b = some o) : ZSt xs ys z TI TO i j t u S k h' := by
  have n := fun b (hb : b ∈ [z, TI, TO, i, j, t, u]) => nz b hb
  refine ⟨?_, hk _ _ (n TI (by simp)) Z.ti, Z.hi.at fun o e => hk _ _ (n i (by simp)) e, Z.hj.at fun o e => hk _ _ (n j (by simp)) e, Z.ht.at fun o e => hk _ _ (n t (by simp)) e, Z.hu.at fun o e => hk _ _ (n u (by simp)) e⟩
  rcases Z.st with ⟨a, b, c, d⟩ | ⟨T, f, oT, a, b, c, d, e, g⟩
  · exact .inl ⟨hk _ _ (n z (by simp)) a, b, c, hk _ _ (n TO (by simp)) d⟩
  · exact .inr ⟨T, f, oT, hk _ _ (n z (by simp)) a, hk _ _ g b, c, d, e, g⟩
theorem zs_item {xs ys : Array Value} {z TI TO i j t u S : Addr} {k : Nat} {x y : Value} {Q : Option Value → Shared → Prop} (D : ZipApart z TI TO i j t u) (Z : ZSt xs ys z TI TO i j t u S k s.heap) (hS : S < s.heap.objs.size)
    (hlt : ∀ b ∈ [z, i, j], b < s.heap.objs.size) (hti : TI ≠ TO) (hx : xs[k]? = some x) (hy : ys[k]? = some y)
    (hQ : ∀ g, ZSt xs ys z TI TO i j t u S (k + 1) g → IsPair g s.heap.objs.size x y → g.objs.size = s.heap.objs.size + 1 →
      (∀ c o, c ≠ z → c ≠ TO → c ≠ i → c ≠ j → s.heap.get? c = some o → g.get? c = some o) → Q (some (.ref s.heap.objs.size)) { s with heap := g }) :
    wpAny (model prog w) A (pyNext (.ref z)) Q E s := by
  have nb : ∀ b ∈ [z, i, j], s.heap.objs.size ≠ b := fun b hb => Nat.ne_of_gt (hlt b hb)
  rcases Z.st with ⟨hz, a, b, hTO⟩ | ⟨T, f, oT, hz, hT, n1, n2, n3, n4⟩
  · refine RZ.pyNext_zipT_item D hz Z.ti hTO Z.hi Z.hj Z.ht Z.hu hx hy fun g z' TO' i' j' hT hsz hk => hQ g ⟨.inr ⟨_, false, _, z', hT, nb z (by simp), nb i (by simp), nb j (by simp), Nat.ne_of_gt hS⟩, ?_, i', j', ?_, ?_⟩ hT hsz hk
    · exact hk _ _ D.TIz D.TITO D.TIi1 D.TIi2 Z.ti
    · exact Z.ht.at fun o e => hk _ _ D.l1z D.l1TO D.l1i1 D.l1i2 e
    · exact Z.hu.at fun o e => hk _ _ D.l2z D.l2TO D.l2i1 D.l2i2 e
  · refine zt_item D hz hT Z.ti Z.hi Z.hj Z.ht Z.hu hx hy fun g z' i' j' hT' hsz hk => hQ g ⟨.inr ⟨T, true, oT, z', hk _ _ n1 n2 n3 hT, n1, n2, n3, n4⟩, ?_, i', j', ?_, ?_⟩ hT' hsz fun c o c1 _ c3 c4 e => hk c o c1 c3 c4 e
    · exact hk _ _ D.TIz D.TIi1 D.TIi2 Z.ti
    · exact Z.ht.at fun o e => hk _ _ D.l1z D.l1i1 D.l1i2 e
    · exact Z.hu.at fun o e => hk _ _ D.l2z D.l2i1 D.l2i2 e
theorem zs_end {xs ys : Array Value} {z TI TO i j t u S : Addr} {k : Nat} {Q : Option Value → Shared → Prop} (hh : A.handled = none) (D : ZipApart z TI TO i j t u) (Z : ZSt xs ys z TI TO i j t u S k s.heap) (hx : xs[k]? = none)
    (hQ : ∀ g, (∀ c o, c ≠ z → c ≠ TO → c ≠ i → c ≠ j → s.heap.get? c = some o → g.get? c = some o) → Q none { s with heap := g }) : wpAny (model prog w) A (pyNext (.ref z)) Q E s := by
  rcases Z.st with ⟨hz, a, b, hTO⟩ | ⟨T, f, oT, hz, hT, _⟩
  · exact RZ.pyNext_zipT_end hh D hz Z.ti hTO Z.hi Z.hj Z.ht Z.hu (.inl hx) hQ
  · exact zt_end hh D hz hT Z.ti Z.hi Z.ht hx fun g hk => hQ g fun c o c1 _ c3 c4 e => hk c o c1 c3 c4 e
end
section
variable {prog : Program} {w : World} {A : Around} {s : Shared} {R : Result → Shared → Prop} {xs ys : Array Value} {z TI TO i j t u S : Addr}
theorem zs_loop (hh : A.handled = none) (D : ZipApart z TI TO i j t u) (hlo : ∀ b ∈ [z, TI, TO, i, j, t, u], b < S) (hxy : xs.size = ys.size) (hn : xs.size ≤ sizeLine) (res : Value) {h0 : Heap}
    (hR : ∀ g tk acc c as, (∀ b o, b ≠ S → b ≠ z → b ≠ TO → b ≠ i → b ≠ j → h0.get? b = some o → g.get? b = some o) → g.get? S = some { cls := .type "list", dict := none, data := .seq acc c, slots := #[] } → as.length = xs.size → ZG xs ys S g as →
      acc.toList = as.map Value.ref → R (.ok (.ret res)) { s with heap := g, toks := tk }) :
    ∀ (n k : Nat) (h : Heap) (tk c : Nat) (acc : Array Value) (as : List Addr), xs.size - k = n → k ≤ xs.size → ZSt xs ys z TI TO i j t u S k h → (∀ b o, b ≠ S → b ≠ z → b ≠ TO → b ≠ i → b ≠ j → h0.get? b = some o → h.get? b = some o) →
      h.get? S = some { cls := .type "list", dict := none, data := .seq acc c, slots := #[] } → acc.toList = as.map Value.ref → as.length = k → ZG xs ys S h as →
      codeAny (model prog w) A (.builtin "list.extend.loop" ⟨[.ref S, .ref z, res], []⟩) R { s with heap := h, toks := tk } := by
  have nS : ∀ b ∈ [z, TI, TO, i, j, t, u], b ≠ S := fun b hb => Nat.ne_of_lt (hlo b hb)
  have zS := nS z (by simp)
  intro n
  induction n with
  | zero =>
    intro k h tk c acc as hnk hk Z kp hS hacc hal G
    refine codeAny_builtin F.entry_extend_loop ?_
    rw [Around.under_plainId F.plain_extend_loop _]
    show wpAny _ A.in1 (pyNext (.ref z) >>= _) _ _ _
    refine wpAny_bind (zs_end (s := { s with heap := h, toks := tk }) (A := A.in1) hh D Z (Array.getElem?_eq_none (by omega)) fun g hk' => ?_)
    have off : ∀ b o, S < b → h.get? b = some o → g.get? b = some o := fun b o hb e =>
      hk' b o (Nat.ne_of_gt (Nat.lt_trans (hlo z (by simp)) hb)) (Nat.ne_of_gt (Nat.lt_trans (hlo TO (by simp)) hb)) (Nat.ne_of_gt (Nat.lt_trans (hlo i (by simp)) hb)) (Nat.ne_of_gt (Nat.lt_trans (hlo j (by simp)) hb)) e
    refine wpAny_pure (hR g tk acc c as (fun b o b1 b2 b3 b4 b5 e => hk' b o b2 b3 b4 b5 (kp b o b1 b2 b3 b4 b5 e)) (hk' S _ (Ne.symm zS) (Ne.symm (nS TO (by simp))) (Ne.symm (nS i (by simp))) (Ne.symm (nS j (by simp))) hS) (by omega) ⟨G.rise, G.above, fun m a hm => ?_⟩ hacc)
    obtain ⟨x, y, e1, e2, e3⟩ := G.pairs m a hm
    exact ⟨x, y, e1, e2, off a _ (G.above a (List.mem_of_getElem? hm)) e3⟩
  | succ n ih =>
    intro k h tk c acc as hnk hk Z kp hS hacc hal G
    have hlt : k < xs.size := by omega
    have hx : xs[k]? = some xs[k] := by simp [hlt]
    have hy : ys[k]? = some (ys[k]'(by omega)) := by simp [show k < ys.size by omega]
    have hsz : acc.size = k := by rw [← Array.length_toList, hacc, List.length_map, hal]
    have hSl : S < h.objs.size := Heap.lt_size hS
    refine codeAny_builtin F.entry_extend_loop ?_
    rw [Around.under_plainId F.plain_extend_loop _]
    show wpAny _ A.in1 (pyNext (.ref z) >>= _) _ _ _
    refine wpAny_bind (zs_item (s := { s with heap := h, toks := tk }) D Z hSl (fun b hb => Nat.lt_trans (hlo b (by simp at hb ⊢; rcases hb with h | h | h <;> simp [h])) hSl) D.TITO hx hy fun g Z' hp hz hk' => ?_)
    dsimp only at hp hz hk' ⊢
    have hS' := hk' S _ (Ne.symm zS) (Ne.symm (nS TO (by simp))) (Ne.symm (nS i (by simp))) (Ne.symm (nS j (by simp))) hS
    have up : ∀ b o, b ≠ S → g.get? b = some o → (g.update S (Obj.mapSeq (·.push (Value.ref h.objs.size)))).get? b = some o := fun b o hb e => (Heap.get?_update_other _ _ (Ne.symm hb)).trans e
    have off : ∀ b o, S < b → h.get? b = some o → g.get? b = some o := fun b o hb e =>
      hk' b o (Nat.ne_of_gt (Nat.lt_trans (hlo z (by simp)) hb)) (Nat.ne_of_gt (Nat.lt_trans (hlo TO (by simp)) hb)) (Nat.ne_of_gt (Nat.lt_trans (hlo i (by simp)) hb)) (Nat.ne_of_gt (Nat.lt_trans (hlo j (by simp)) hb)) e
    have there : ∀ a ∈ as, a < h.objs.size := fun a ha => by
      obtain ⟨m, hm⟩ := List.mem_iff_getElem?.mp ha
      obtain ⟨_, _, _, _, e⟩ := G.pairs m a hm
      exact Heap.lt_size e
    show wpAny _ A.in1 (updateSeq S (·.push (Value.ref h.objs.size)) >>= _) _ _ _
    refine wpAny_bind ?_
    refine wpAny_updateSeq hS' rfl (wpAny_pure ⟨plainId_quiet F.plain_extend_loop _, ih (k + 1) _ tk _ (acc.push (Value.ref h.objs.size)) (as ++ [h.objs.size]) (by omega) hlt (Z'.up nS up)
      (fun b o b1 b2 b3 b4 b5 e => up b o b1 (hk' b o b2 b3 b4 b5 (kp b o b1 b2 b3 b4 b5 e))) (Heap.get?_update_self _ hS' rfl) (by rw [Array.toList_push, hacc, List.map_append]; rfl) (by rw [List.length_append, hal]; rfl) ⟨?_, ?_, ?_⟩⟩) (by rw [hsz]; omega) (by show (acc.push (Value.ref h.objs.size)).size ≤ sizeLine + 1; rw [Array.size_push, hsz]; omega)
    · refine List.pairwise_append.mpr ⟨G.rise, List.pairwise_singleton _ _, fun a ha b hb => ?_⟩
      exact List.mem_singleton.mp hb ▸ there a ha
    · intro a ha
      rcases List.mem_append.mp ha with ha | ha
      · exact G.above a ha
      · exact List.mem_singleton.mp ha ▸ hSl
    · intro m b hm
      by_cases h1 : m < as.length
      · rw [List.getElem?_append_left h1] at hm
        obtain ⟨x', y', e1, e2, e3⟩ := G.pairs m b hm
        have hb := G.above b (List.mem_of_getElem? hm)
        exact ⟨x', y', e1, e2, up b _ (Nat.ne_of_gt hb) (off b _ hb e3)⟩
      · rw [List.getElem?_append_right (by omega)] at hm
        have h2 : m - as.length = 0 := by
          have := (List.getElem?_eq_some_iff.mp hm).1
          simp at this
          omega
        have h3 : m = k := by omega
        rw [h2] at hm
        have hb : h.objs.size = b := by simpa using hm
        subst hb h3
        exact ⟨_, _, hx, hy, up _ _ (Nat.ne_of_gt hSl) hp⟩
theorem zs_extend (hh : A.handled = none) (D : ZipApart z TI TO i j t u) (hlo : ∀ b ∈ [z, TI, TO, i, j, t, u], b < S) (hxy : xs.size = ys.size) (hn : xs.size ≤ sizeLine) (res : Value) (c0 : Nat)
    (Z : ZSt xs ys z TI TO i j t u S 0 s.heap) (hz : IsZip s.heap z TI TO .none) (hS : s.heap.get? S = some { cls := .type "list", data := .seq #[] c0 })
    (hR : ∀ g tk acc c as, (∀ b o, b ≠ S → b ≠ z → b ≠ TO → b ≠ i → b ≠ j → s.heap.get? b = some o → g.get? b = some o) → g.get? S = some { cls := .type "list", dict := none, data := .seq acc c, slots := #[] } → as.length = xs.size → ZG xs ys S g as →
      acc.toList = as.map Value.ref → R (.ok (.ret res)) { s with heap := g, toks := tk }) :
    wpAny (model prog w) A.in1 (Builtin.List.listExtendWith (.ref S) (.ref z) res)
      (fun fin q => match fin with | .done f => R (.ok f) q | .again c => c.quiet = true ∧ codeAny (model prog w) A c R q) (fun e q => R (.error e) q) s := by
  have nS : ∀ b ∈ [z, TI, TO, i, j, t, u], b ≠ S := fun b hb => Nat.ne_of_lt (hlo b hb)
  have hSz : S ≠ z := Ne.symm (nS z (by simp))
  have ty : s.TypeIs (.ref z) "zip" := ⟨_, hz, rfl⟩
  unfold Builtin.List.listExtendWith
  refine wpAny_bind (wpAny_typeOf ty ?_)
  have b1 : Builtin.List.listSameRef (.ref S) (.ref z) = false := by simp [Builtin.List.listSameRef, hSz]
  have b2 : (Value.type "zip" == Value.type "list") = false := by decide
  have b3 : (Value.type "zip" == Value.type "tuple") = false := by decide
  simp only [b1, b2, b3, Bool.or_false, Bool.false_eq_true, if_false]
  refine wpAny_bind (wpAny_pyIter_zip hz ?_)
  refine wpAny_bind (wpAny_holding ?_)
  unfold Builtin.List.listLengthHint
  refine wpAny_bind (wpAny_specialOf ty zip_len_none ?_)
  show wpAny _ A.in1 (specialOf (Value.ref z) (Str.ofString "__length_hint__") >>= _) _ _ s
  refine wpAny_bind (wpAny_specialOf ty zip_hint_none (wpAny_pure ?_))
  show wpAny _ A.in1 (rule "list.extend.makes-room" >>= fun _ => Builtin.List.listTouch (.ref S) >>= fun _ =>
    again (.builtin "list.extend.loop" ⟨[.ref S, .ref z, res], []⟩)) _ _ s
  refine wpAny_bind (wpAny_rule (wpAny_bind ?_))
  show wpAny _ A.in1 (updateSeq S (·.push .none) >>= fun _ => updateSeq S (·.pop)) _ _ s
  refine wpAny_bind (wpAny_updateSeq hS rfl ?_)
  have S2 := Heap.get?_update_self (Obj.mapSeq (·.push Value.none)) hS rfl
  refine wpAny_updateSeq (hz := by seq_fits) S2 rfl ?_
  have S3 := Heap.get?_update_self (Obj.mapSeq (·.pop)) S2 rfl
  have oth : ∀ b o, b ≠ S → s.heap.get? b = some o → ((s.heap.update S (Obj.mapSeq (·.push Value.none))).update S (Obj.mapSeq (·.pop))).get? b = some o :=
    fun b o hb e => (Heap.get?_update_other _ _ (Ne.symm hb)).trans ((Heap.get?_update_other _ _ (Ne.symm hb)).trans e)
  refine wpAny_pure ⟨plainId_quiet F.plain_extend_loop _, zs_loop (h0 := s.heap) hh D hlo hxy hn res hR xs.size 0 _ s.toks _ #[] [] (Nat.sub_zero _) (Nat.zero_le _) (Z.up nS oth) (fun b o b1 _ _ _ _ e => oth b o b1 e) S3 rfl rfl ⟨List.Pairwise.nil, (fun _ ha => nomatch ha), (fun m a hm => by simp at hm)⟩⟩
theorem zs_init (hh : A.handled = none) (D : ZipApart z TI TO i j t u) (hlo : ∀ b ∈ [z, TI, TO, i, j, t, u], b < S) (hxy : xs.size = ys.size) (hn : xs.size ≤ sizeLine)
    (Z : ZSt xs ys z TI TO i j t u S 0 s.heap) (hz : IsZip s.heap z TI TO .none) (hS : s.heap.get? S = some { cls := .type "list", data := .seq #[] })
    (hR : ∀ g tk acc c as, (∀ b o, b ≠ S → b ≠ z → b ≠ TO → b ≠ i → b ≠ j → s.heap.get? b = some o → g.get? b = some o) → g.get? S = some { cls := .type "list", dict := none, data := .seq acc c, slots := #[] } → as.length = xs.size → ZG xs ys S g as →
      acc.toList = as.map Value.ref → R (.ok (.ret .none)) { s with heap := g, toks := tk }) :
    wpAny (model prog w) A.in1 (Builtin.«list.__init__» ⟨[.ref S, .ref z], []⟩)
      (fun fin q => match fin with | .done f => R (.ok f) q | .again c => c.quiet = true ∧ codeAny (model prog w) A c R q) (fun e q => R (.error e) q) s := by
  have nS : ∀ b ∈ [z, TI, TO, i, j, t, u], b ≠ S := fun b hb => Nat.ne_of_lt (hlo b hb)
  show wpAny _ A.in1 (do
    let old ← Builtin.List.listItems (.ref S)
    Builtin.List.listUpdate (.ref S) (fun _ => #[])
    letGo old.toList.reverse
    Builtin.List.listExtendWith (.ref S) (.ref z) .none) _ _ s
  refine wpAny_bind ?_
  unfold Builtin.List.listItems
  refine wpAny_bind (wpAny_seqItems hS rfl (wpAny_pure ?_))
  show wpAny _ A.in1 (updateSeq S (fun _ => #[]) >>= fun _ => letGo (#[] : Array Value).toList.reverse >>= fun _ => Builtin.List.listExtendWith (.ref S) (.ref z) .none) _ _ s
  refine wpAny_bind (wpAny_updateSeq hS rfl ?_)
  have S2 := Heap.get?_update_self (Obj.mapSeq (fun _ => (#[] : Array Value))) hS rfl
  have oth : ∀ b o, b ≠ S → s.heap.get? b = some o → (s.heap.update S (Obj.mapSeq (fun _ => (#[] : Array Value)))).get? b = some o := fun b o hb e => (Heap.get?_update_other _ _ (Ne.symm hb)).trans e
  refine wpAny_bind (wpAny_letGo ?_)
  exact zs_extend hh D hlo hxy hn .none _ (Z.up nS oth) (oth _ _ (nS z (by simp)) hz) S2 fun g tk acc c as hk hS' hl hG hacc => hR g tk acc c as (fun b o b1 b2 b3 b4 b5 e => hk b o b1 b2 b3 b4 b5 (oth b o b1 e)) hS' hl hG hacc
end
theorem call_list_zipT {prog : Program} {w : World} {A : Around} {E : Value → Shared → Prop} {s : Shared} {xs ys : Array Value} {z TI TO i j t u : Addr} {Q : Value → Shared → Prop}
    (hh : A.handled = none) (D : ZipApart z TI TO i j t u) (hlo : ∀ b ∈ [z, TI, TO, i, j, t, u], b < s.heap.objs.size) (hxy : xs.size = ys.size) (hn : xs.size ≤ sizeLine)
    (hz : IsZip s.heap z TI TO .none) (hti : IsPair s.heap TI (.ref i) (.ref j)) (hto : IsPair s.heap TO .none .none) (hi : s.heap.IsTupleIter i t 0) (hj : s.heap.IsTupleIter j u 0) (ht : s.heap.IsTuple t xs) (hu : s.heap.IsTuple u ys)
    (hQ : ∀ g tk acc c as, (∀ b o, b ≠ z → b ≠ TO → b ≠ i → b ≠ j → s.heap.get? b = some o → g.get? b = some o) → g.get? s.heap.objs.size = some { cls := .type "list", dict := none, data := .seq acc c, slots := #[] } → as.length = xs.size → ZG xs ys s.heap.objs.size g as →
      acc.toList = as.map Value.ref → Q (.ref s.heap.objs.size) { s with heap := g, toks := tk }) :
    wpAny (model prog w) A (call (.type "list") [.ref z]) Q E s := by
  refine callType_codes (Q₁ := fun obj q => obj = .ref s.heap.objs.size ∧ q = { s with heap := s.heap.push { cls := .type "list", data := .seq #[] } }) F.called_list (F.typeCall_list_1 _) F.entry_list_init
    (code_list_new _ ⟨rfl, rfl⟩) fun obj q hq => ?_
  obtain ⟨rfl, rfl⟩ := hq
  have hS : (s.heap.push { cls := .type "list", data := .seq #[] }).get? s.heap.objs.size = some { cls := .type "list", data := .seq #[] } := Heap.get?_push_size _ rfl
  have ps : ∀ b o, s.heap.get? b = some o → (s.heap.push { cls := .type "list", data := .seq #[] }).get? b = some o := fun b o e => Heap.get?_push_of_some _ e
  refine ⟨⟨_, hS, rfl⟩, F.args_list_init_2 _ _, ?_⟩
  refine zs_init (A := A.in1) hh D hlo hxy hn ⟨.inl ⟨ps _ _ hz, _, _, ps _ _ hto⟩, ps _ _ hti, hi.at fun o e => ps _ _ e, hj.at fun o e => ps _ _ e, ht.at fun o e => ps _ _ e, hu.at fun o e => ps _ _ e⟩ (ps _ _ hz) hS fun g tk acc c as hk hS' hl hG hacc => ?_
  exact ⟨rfl, hQ g tk acc c as (fun b o b2 b3 b4 b5 e => hk b o (Nat.ne_of_lt (Heap.lt_size e)) b2 b3 b4 b5 (ps _ _ e)) hS' hl hG hacc⟩
end Nf

set_option Elab.async false
set_option linter.all false
set_option maxRecDepth 100000
namespace Nf
open PySem PySem.Spec PyProof.Rows L2
/-! ### list(zip(t, u)): the rule -/
def putP : Hp → List Addr → List (V × V) → Hp
  | H, a :: as, p :: ps => putP (upd H a (.tup [p.1, p.2])) as ps
  | H, _, _ => H
theorem putP_off {b : Addr} : ∀ (as : List Addr) (ps : List (V × V)) (H : Hp), b ∉ as → putP H as ps b = H b
  | [], _, _, _ => rfl
  | _ :: _, [], _, _ => rfl
  | a :: as, p :: ps, H, h => by
    have h' : ¬ b = a ∧ b ∉ as := by simpa using h
    show putP (upd H a (.tup [p.1, p.2])) as ps b = H b
    rw [putP_off as ps _ h'.2, upd_ne h'.1]
abbrev PrR (H : Hp) (a : Addr) (p : V × V) : Prop := H a = some (.tup [p.1, p.2])
theorem putP_at : ∀ (as : List Addr) (ps : List (V × V)) (H : Hp), as.length = ps.length → as.Nodup → Paired (PrR (putP H as ps)) as ps
  | [], [], _, _, _ => .nil
  | [], _ :: _, _, h, _ => by cases h
  | _ :: _, [], _, h, _ => by cases h
  | a :: as, p :: ps, H, h, hn => by
    have hn' := List.nodup_cons.mp hn
    refine .cons ?_ (putP_at as ps (upd H a (.tup [p.1, p.2])) (Nat.succ.inj h) hn'.2)
    show putP (upd H a (.tup [p.1, p.2])) as ps a = some (.tup [p.1, p.2])
    rw [putP_off as ps _ hn'.1, upd_same]
theorem pairs_laid {X : Cx} {pins : List (Addr × Obj)} {σ : L2.St} {H : Hp} {s : Shared} {g : Heap} {tk : Nat} {xs ys : List V} {its1 its2 : List Value} {acc : Array Value} {c : Nat} {as : List Addr} {S : Addr}
    (I : Inv X pins σ H s) (hS0 : s.heap.objs.size ≤ S) (r1 : Vals xs its1) (r2 : Vals ys its2) (hl : xs.length = ys.length) (hz : xs.length ≤ sizeLine)
    (hk : ∀ b o, s.heap.get? b = some o → g.get? b = some o) (hS : g.get? S = some { cls := .type "list", dict := none, data := .seq acc c, slots := #[] })
    (has : as.length = its1.toArray.size) (G : ZG its1.toArray its2.toArray S g as) (hacc : acc.toList = as.map Value.ref) :
    ∃ H' : Hp, Same H H' ∧ H S = none ∧ H' S = some (.lst (as.map V.ref)) ∧ Paired (PrR H') as (xs.zip ys) ∧ Inv X pins σ H' { s with heap := g, toks := tk } := by
  have l1 : xs.length = its1.length := r1.length
  have l2 : ys.length = its2.length := r2.length
  have has' : as.length = xs.length := by rw [has, l1]; simp
  have lz : as.length = (xs.zip ys).length := by rw [List.length_zip]; omega
  have hSn : S ∉ as := fun z => Nat.lt_irrefl _ (G.above _ z)
  have nd : as.Nodup := List.Pairwise.imp (fun {a b} (h : a < b) => Nat.ne_of_lt h) G.rise
  have new : ∀ a ∈ as, H a = none := fun a ha => I.hok.fresh (Nat.le_trans hS0 (Nat.le_of_lt (G.above a ha)))
  have newS : H S = none := I.hok.fresh hS0
  have atP := putP_at as (xs.zip ys) (upd H S (.lst (as.map V.ref))) lz nd
  have off : ∀ b, b ∉ as → b ≠ S → putP (upd H S (.lst (as.map V.ref))) as (xs.zip ys) b = H b := fun b h1 h2 => by rw [putP_off as _ _ h1, upd_ne h2]
  have low : ∀ b o, s.heap.get? b = some o → b ∉ as ∧ b ≠ S := fun b o e =>
    ⟨fun z => absurd (Heap.lt_size e) (Nat.not_lt.mpr (Nat.le_trans hS0 (Nat.le_of_lt (G.above b z)))), Nat.ne_of_lt (Nat.lt_of_lt_of_le (Heap.lt_size e) hS0)⟩
  have kp : Same H (putP (upd H S (.lst (as.map V.ref))) as (xs.zip ys)) := fun b v e => by
    rw [off b (fun z => by rw [new b z] at e; cases e) (fun z => by rw [z, newS] at e; cases e)]
    exact e
  have eS : putP (upd H S (.lst (as.map V.ref))) as (xs.zip ys) S = some (.lst (as.map V.ref)) := by rw [putP_off as _ _ hSn, upd_same]
  refine ⟨putP (upd H S (.lst (as.map V.ref))) as (xs.zip ys), kp, newS, eS, atP, ?_⟩
  refine I.call' (ch := []) rfl ⟨fun b o q _ _ _ => hk b o q, fun b o q _ _ _ => ⟨o.slots, hk b o q⟩, fun b o q n _ => ?_, fun b o q _ => ⟨o, hk b o q⟩, fun b zs q => kp b _ q, fun b o v q => kp b _ q, fun b ps q => ⟨#[], by rw [kp b _ q]; simp⟩⟩
    (fun b v q => ?_) I.bare fun b z => by simp at z
  · obtain ⟨z1, z2⟩ := low b o q
    rw [off b z1 z2]
    exact n
  · by_cases hb : b ∈ as
    · obtain ⟨m, pk, e1, e2, e3⟩ := LiI.paired_ix atP hb
      have e3' : putP (upd H S (.lst (as.map V.ref))) as (xs.zip ys) b = some (.tup [pk.1, pk.2]) := e3
      rw [e3'] at q
      cases q
      obtain ⟨x, y, f1, f2, f3⟩ := G.pairs m b e1
      rw [List.getElem?_zip_eq_some] at e2
      obtain ⟨u1, g1, ru1⟩ := r1.get e2.1
      obtain ⟨u2, g2, ru2⟩ := r2.get e2.2
      have x1 : u1 = x := by
        have := f1.symm.trans (show its1.toArray[m]? = some u1 by simpa using g1)
        exact (Option.some.inj this).symm
      have y1 : u2 = y := by
        have := f2.symm.trans (show its2.toArray[m]? = some u2 by simpa using g2)
        exact (Option.some.inj this).symm
      subst x1 y1
      exact ⟨by show 2 ≤ sizeLine; decide, [u1, u2], .cons ru1 (.cons ru2 .nil), ⟨_, f3, rfl, _, rfl⟩⟩
    · by_cases hb2 : b = S
      · rw [hb2] at q ⊢
        rw [eS] at q
        cases q
        refine ⟨by rw [List.length_map]; omega, acc.toList, c, by rw [hacc]; exact LiI.vals_refs as, ?_⟩
        rw [Array.toArray_toList]
        exact hS
      · rw [off b hb hb2] at q
        exact (I.hok b v q).stay (fun d w _ y => hk d w y) (fun d y => kp d _ y) fun d zs y => kp d _ y
def tListZip (K : PySem.W.Frag) (ta : TA) : TE := fun σ H Q => ta σ H fun vs H1 => ∃ a b xs ys, vs = [.ref a, .ref b] ∧ SqT K H1 a xs ∧ SqT K H1 b ys ∧ xs.length = ys.length ∧
  ∀ (H' : Hp) (p : Addr) (ts : List Addr), Same H1 H' → H1 p = none → H' p = some (.lst (ts.map V.ref)) → Paired (PrR H') ts (xs.zip ys) → Q (.ref p) H'
theorem pe_listZip {X : Cx} {e e2 : Expr} {ta : TA} {p p2 pos pos2 : Pos} (hc : X.calm = true) (hg : Gl X "list") (hm : X.mg "list" = none) (hg2 : Gl X "zip") (hm2 : X.mg "zip" = none) (ha : PA X [e, e2] ta)
    (hs2 : starEach [e, e2] X.env = (false, eval e X.env) :: starEach [e2] X.env := by rfl) (hpl : (backTo pos2 (starEach [e2] X.env)).any (·.1) = false := by rfl)
    (hs : starEach [.Call (.Name "zip" p2) [e, e2] [] pos2] X.env = (false, eval (.Call (.Name "zip" p2) [e, e2] [] pos2) X.env) :: starEach [] X.env := by rfl) :
    PE X (.Call (.Name "list" p) [.Call (.Name "zip" p2) [e, e2] [] pos2] [] pos) (tListZip X.K ta) := by
  refine ⟨fun pins s σ H Q I h => ?_⟩
  refine Call_ (ld_blt I hg hm boot_list (PyProof.Rows.callWith_type1 ?_ hs rfl))
  rw [hs]
  show wpAny _ _ (spliced ((false, eval (.Call (.Name "zip" p2) [e, e2] [] pos2) X.env) :: backTo pos (starEach [] X.env))) _ _ s
  refine Calls.spliced_cons ?_
  refine Call_ (ld_blt I hg2 hm2 PyProof.Rows.boot_zip (PyProof.Rows.callWith_type1 (thn (ha.run pos2 pins s σ H _ I h) fun us s1 ⟨vs, H1, I1, r1, q1⟩ => ?_) hs2 hpl))
  obtain ⟨a, b, xs, ys, ex, hqx, hqy, hl, q⟩ := q1
  subst ex
  obtain ⟨u1, u2, eu, ra, rb⟩ := vals2 r1
  subst eu
  obtain rfl : u1 = Value.ref a := ra
  obtain rfl : u2 = Value.ref b := rb
  obtain ⟨its, rv, t1, z1⟩ := I1.tuple hqx
  obtain ⟨its2, rv2, t2, z2⟩ := I1.tuple hqy
  have ha1 : a < s1.heap.objs.size := by obtain ⟨o, ho, _⟩ := id t1; exact Heap.lt_size ho
  have hb1 : b < s1.heap.objs.size := by obtain ⟨o, ho, _⟩ := id t2; exact Heap.lt_size ho
  refine RZ.call_zipT (show s1.heap.IsTuple a its.toArray from t1) (show s1.heap.IsTuple b its2.toArray from t2) fun h' hz hti hto hi hj hsz hk => ?_
  refine Calls.spliced_nil ?_
  have lo5 : ∀ m : Nat, m < 5 → s1.heap.objs.size + m < h'.objs.size := fun m hm => by rw [hsz]; exact Nat.add_lt_add_left hm _
  have szl : its.toArray.size = its2.toArray.size := by
    have := rv.length; have := rv2.length
    simp; omega
  refine call_list_zipT (s := { s1 with heap := h' }) (A := X.A) (I1.ok.hd hc) (PySem.W.ktu_apart s1.heap.objs.size a b ha1 hb1) (fun c hc' => ?_) szl (by have := rv.length; simp; omega) hz hti hto hi hj
    (Heap.IsTuple.at (show s1.heap.IsTuple a its.toArray from t1) fun o e => hk _ _ e) (Heap.IsTuple.at (show s1.heap.IsTuple b its2.toArray from t2) fun o e => hk _ _ e) fun g tk acc c as hk' hS hl' hG hacc => ?_
  · have e' : c = s1.heap.objs.size + 4 ∨ c = s1.heap.objs.size + 2 ∨ c = s1.heap.objs.size + 3 ∨ c = s1.heap.objs.size ∨ c = s1.heap.objs.size + 1 ∨ c = a ∨ c = b := by simpa using hc'
    rcases e' with z | z | z | z | z | z | z
    · exact z ▸ lo5 4 (by decide)
    · exact z ▸ lo5 2 (by decide)
    · exact z ▸ lo5 3 (by decide)
    · exact z ▸ lo5 0 (by decide)
    · exact z ▸ lo5 1 (by decide)
    · exact z ▸ Nat.lt_trans ha1 (lo5 0 (by decide))
    · exact z ▸ Nat.lt_trans hb1 (lo5 0 (by decide))
  · have hkk : ∀ b o, s1.heap.get? b = some o → g.get? b = some o := fun d o e =>
      have ld := Heap.lt_size e
      hk' d o (Nat.ne_of_lt (Nat.lt_add_right 4 ld)) (Nat.ne_of_lt (Nat.lt_add_right 3 ld)) (Nat.ne_of_lt ld) (Nat.ne_of_lt (Nat.lt_add_right 1 ld)) (hk d o e)
    obtain ⟨H', k1, k2, k3, k4, J⟩ := pairs_laid (tk := tk) I1 (show s1.heap.objs.size ≤ h'.objs.size by rw [hsz]; exact Nat.le_add_right _ _) rv rv2 hl z1 hkk hS hl' hG hacc
    exact ⟨.ref _, H', J, rfl, q H' _ as k1 k2 k3 k4⟩
end Nf

set_option Elab.async false
set_option linter.all false
set_option maxRecDepth 100000
namespace Sh
open PySem L2 Nf
/-! built-ins -/
def eF (f : List D → Option D) (t : Ad) : Ed := fun ρ => Mb (t ρ) fun ds => Mo (f ds)
def CallD (Γ : Gm) (r : List V → Hp → VK → Prop) (f : List D → Option D) : Prop := ∀ R H vs ds d, f ds = some d → Same R H → FzA Γ.c R vs ds → Gives Γ R H d (r vs)
theorem CallR.or {X : Cx} {f : Value} {r r' : List V → Hp → VK → Prop} (h : CallR X f r) (h' : CallR X f r') : CallR X f (fun xs H Q => r xs H Q ∨ r' xs H Q) := by
  intro pins s σ H vs us Q I rv q
  rcases q with q | q
  · exact h pins s σ H vs us Q I rv q
  · exact h' pins s σ H vs us Q I rv q
section
variable {X : Cx} {Γ : Gm} {x : Str} {p pos : Pos} {e : Expr} {es : List Expr} {t : Ad} {id T : String} {r : List V → Hp → VK → Prop} {f : List D → Option D}
theorem eF_up {σ : L2.St} {H : Hp} {Q : VK} (hf : CallD Γ r f) (h : up Γ (eF f t) σ H Q) : upA Γ t σ H fun vs H1 => r vs H1 Q := by
  obtain ⟨R, ρ, n, rr, n', rp, e, q⟩ := h
  obtain ⟨ds, m, e1, e⟩ := Mb_some e
  obtain ⟨ee, rfl⟩ := Mo_some e
  exact ⟨R, ρ, n, ds, _, rp, e1, fun vs R1 H1 rp1 S1 z1 => hf R1 H1 vs ds rr ee rp1.hp.same z1 σ ρ _ Q rp1 fun w R3 H3 rp3 S3 z3 => q w R3 H3 rp3 (S1.trans S3) z3⟩
theorem d_callB (hc : CallR X (.builtin id) r) (hf : CallD Γ r f) (hg : Gl X x) (hm : X.mg x = none) (hv : bootBuiltins x = some (.builtin id)) (ha : DA X Γ (e :: es) t) (hn : x ≠ "__name__" := by decide) (hdb : (x == ("__debug__" : Str)) = false := by decide)
    (he : starEach (e :: es) X.env = (false, eval e X.env) :: starEach es X.env := by rfl) (hpl : (backTo pos (starEach es X.env)).any (·.1) = false := by rfl) : DE X Γ (.Call (.Name x p) (e :: es) [] pos) (eF f t) :=
  ⟨PE.wk (pe_callB hc hg hm hv ha.p hn hdb he hpl) fun σ H Q h => eF_up hf h⟩
theorem d_callT (hc : CallR X (.type T) r) (hf : CallD Γ r f) (hg : Gl X x) (hm : X.mg x = none) (hv : bootBuiltins x = some (.type T)) (ha : DA X Γ (e :: es) t) (hn : x ≠ "__name__" := by decide) (hdb : (x == ("__debug__" : Str)) = false := by decide)
    (he : starEach (e :: es) X.env = (false, eval e X.env) :: starEach es X.env := by rfl) (hpl : (backTo pos (starEach es X.env)).any (·.1) = false := by rfl) : DE X Γ (.Call (.Name x p) (e :: es) [] pos) (eF f t) :=
  ⟨PE.wk (pe_callTy hc hg hm hv ha.p hn hdb he hpl) fun σ H Q h => eF_up hf h⟩
theorem fzA1 {c : Cn} {R : Hp} {vs : List V} {d : D} (h : FzA c R vs [d]) : ∃ v, vs = [v] ∧ Fz c R v d := by
  cases h with | cons a b => cases b; exact ⟨_, rfl, a⟩
theorem fzA2 {c : Cn} {R : Hp} {vs : List V} {d e : D} (h : FzA c R vs [d, e]) : ∃ v u, vs = [v, u] ∧ Fz c R v d ∧ Fz c R u e := by
  cases h with | cons a b => cases b with | cons a' b' => cases b'; exact ⟨_, _, rfl, a, a'⟩
def f1 (g : D → Option D) : List D → Option D
  | [x] => g x
  | _ => none
def f2 (g : D → D → Option D) : List D → Option D
  | [x, y] => g x y
  | _ => none
theorem call1 {g : D → Option D} (h : ∀ R H v dx d, g dx = some d → Same R H → Fz Γ.c R v dx → Gives Γ R H d (r [v])) : CallD Γ r (f1 g) := fun R H vs ds d e S z => by
  match ds, e with
  | [dx], e => obtain ⟨v, rfl, z1⟩ := fzA1 z; exact h R H v dx d e S z1
theorem call2 {g : D → D → Option D} (h : ∀ R H v u dx dy d, g dx dy = some d → Same R H → Fz Γ.c R v dx → Fz Γ.c R u dy → Gives Γ R H d (r [v, u])) : CallD Γ r (f2 g) := fun R H vs ds d e S z => by
  match ds, e with
  | [dx, dy], e => obtain ⟨v, u, rfl, z1, z2⟩ := fzA2 z; exact h R H v u dx dy d e S z1 z2
def fLen : D → Option D
  | .tup ds => some (.int (ds.length : Nat))
  | .lst ds => some (.int (ds.length : Nat))
  | .str x => some (.int (x.length : Nat))
  | _ => none
theorem c_len (hK : X.K = Γ.c.K) : CallD Γ (fun xs H Q => ∃ x n, xs = [x] ∧ LenV X.K x H n ∧ Q (.int n) H) (f1 fLen) := call1 fun R H v dx d e S z => by
  cases z with
  | tup h l q => cases e; exact gives_c (.int _) fun Q qq => ⟨_, _, rfl, .inr ⟨_, hK ▸ S.le.sqT h, rfl⟩, by rw [q.len]; exact qq⟩
  | lst h l q => cases e; exact gives_c (.int _) fun Q qq => ⟨_, _, rfl, .inl ⟨_, SqL.of (S _ _ h), rfl⟩, by rw [q.len]; exact qq⟩
  | str y hy => cases e; exact gives_c (.int _) fun Q qq => ⟨_, _, rfl, ⟨hy, rfl⟩, qq⟩
  | _ => cases e
def fAbs : D → Option D
  | .int i => some (.int (if i < 0 then -i else i))
  | _ => none
theorem c_abs : CallD Γ (fun xs H Q => ∃ i, xs = [.int i] ∧ Q (.int (if i < 0 then -i else i)) H) (f1 fAbs) := call1 fun R H v dx d e S z => by
  cases z with
  | int i => cases e; exact gives_c (.int _) fun Q qq => ⟨i, rfl, qq⟩
  | _ => cases e
def fInt : D → Option D
  | .int i => some (.int i)
  | .bl k => some (.int (if k then 1 else 0))
  | _ => none
theorem c_int : CallD Γ (fun xs H Q => (∃ i, xs = [.int i] ∧ Q (.int i) H) ∨ ∃ k, xs = [.bl k] ∧ Q (.int (if k then 1 else 0)) H) (f1 fInt) := call1 fun R H v dx d e S z => by
  cases z with
  | int i => cases e; exact gives_c (.int _) fun Q qq => .inl ⟨i, rfl, qq⟩
  | bl k => cases e; exact gives_c (.int _) fun Q qq => .inr ⟨k, rfl, qq⟩
  | _ => cases e
def fStr : D → Option D
  | .int i => if i.natAbs.log2 < 1920 ∧ (toString i : Str).length ≤ sizeLine then some (.str (toString i)) else none
  | _ => none
theorem c_str : CallD Γ (fun xs H Q => ∃ i, xs = [.int i] ∧ i.natAbs.log2 < 1920 ∧ Q (.str (toString i)) H) (f1 fStr) := call1 fun R H v dx d e S z => by
  cases z with
  | int i =>
    obtain ⟨h, e⟩ := ite_some e
    cases e; exact gives_c (.str _ h.2) fun Q qq => ⟨i, rfl, h.1, qq⟩
  | _ => cases e
def fTuple : D → Option D
  | .tup ds => some (.tup ds)
  | .lst ds => some (.tup ds)
  | _ => none
theorem c_tuple (hK : X.K = Γ.c.K) : CallD Γ (fun xs H Q => ∃ p ys, xs = [.ref p] ∧ ((SqL X.K H p ys ∧ ∀ l, H l = none → Q (.ref l) (upd H l (.tup ys))) ∨ (SqT X.K H p ys ∧ Q (.ref p) H))) (f1 fTuple) := call1 fun R H v dx d e S z => by
  cases z with
  | tup h l q => cases e; exact gives_c (.tup h l q) fun Q qq => ⟨_, _, rfl, .inr ⟨hK ▸ S.le.sqT h, qq⟩⟩
  | lst h l q => cases e; exact gives_new (o := .tup _) (fun p R' e' S' => .tup (SqT.of e') l (q.mono S'.le)) fun Q qq => ⟨_, _, rfl, .inl ⟨SqL.of (S _ _ h), qq⟩⟩
  | _ => cases e
def fList : D → Option D
  | .tup ds => some (.lst ds)
  | .lst ds => some (.lst ds)
  | _ => none
theorem c_list (hK : X.K = Γ.c.K) : CallD Γ (fun xs H Q => ∃ p ys, xs = [.ref p] ∧ (SqL X.K H p ys ∨ SqT X.K H p ys) ∧ ∀ l, H l = none → Q (.ref l) (upd H l (.lst ys))) (f1 fList) := call1 fun R H v dx d e S z => by
  cases z with
  | tup h l q => cases e; exact gives_new (o := .lst _) (fun p R' e' S' => .lst e' l (q.mono S'.le)) fun Q qq => ⟨_, _, rfl, .inr (hK ▸ S.le.sqT h), qq⟩
  | lst h l q => cases e; exact gives_new (o := .lst _) (fun p R' e' S' => .lst e' l (q.mono S'.le)) fun Q qq => ⟨_, _, rfl, .inl (SqL.of (S _ _ h)), qq⟩
  | _ => cases e
/-- items that are truths, numbers -/
def bls : List D → Option (List Bool)
  | [] => some []
  | .bl b :: r => (bls r).map (b :: ·)
  | _ => none
def inz : List D → Option (List Int)
  | [] => some []
  | .int b :: r => (inz r).map (b :: ·)
  | _ => none
theorem bls_of {c : Cn} {R : Hp} : ∀ {vs : List V} {ds : List D} {bs : List Bool}, FzA c R vs ds → bls ds = some bs → vs = bs.map V.bl
  | _, _, _, .nil, e => by cases e; rfl
  | _, _, _, .cons h q, e => by
    cases h with
    | bl b =>
      obtain ⟨bs, e1, rfl⟩ := Option.map_eq_some_iff.mp (show (bls _).map (b :: ·) = _ from e)
      rw [bls_of q e1]; rfl
    | _ => cases e
theorem inz_of {c : Cn} {R : Hp} : ∀ {vs : List V} {ds : List D} {bs : List Int}, FzA c R vs ds → inz ds = some bs → vs = bs.map V.int
  | _, _, _, .nil, e => by cases e; rfl
  | _, _, _, .cons h q, e => by
    cases h with
    | int b =>
      obtain ⟨bs, e1, rfl⟩ := Option.map_eq_some_iff.mp (show (inz _).map (b :: ·) = _ from e)
      rw [inz_of q e1]; rfl
    | _ => cases e
def fAll : D → Option D
  | .lst ds => (bls ds).map fun bs => .bl (bs.all _root_.id)
  | _ => none
def fAny : D → Option D
  | .lst ds => (bls ds).map fun bs => .bl (bs.any _root_.id)
  | _ => none
def fSum : D → Option D
  | .lst ds => (inz ds).map fun bs => .int bs.sum
  | _ => none
theorem c_all : CallD Γ (rAll X.K) (f1 fAll) := call1 fun R H v dx d e S z => by
  cases z with
  | lst h l q =>
    obtain ⟨bs, e1, rfl⟩ := Option.map_eq_some_iff.mp e
    have hx := bls_of q e1
    subst hx
    exact gives_c (.bl _) fun Q qq => ⟨_, bs, rfl, SqL.of (S _ _ h), qq⟩
  | _ => cases e
theorem c_any : CallD Γ (rAny X.K) (f1 fAny) := call1 fun R H v dx d e S z => by
  cases z with
  | lst h l q =>
    obtain ⟨bs, e1, rfl⟩ := Option.map_eq_some_iff.mp e
    have hx := bls_of q e1
    subst hx
    exact gives_c (.bl _) fun Q qq => ⟨_, bs, rfl, SqL.of (S _ _ h), qq⟩
  | _ => cases e
theorem c_sum : CallD Γ (rSum X.K) (f1 fSum) := call1 fun R H v dx d e S z => by
  cases z with
  | lst h l q =>
    obtain ⟨bs, e1, rfl⟩ := Option.map_eq_some_iff.mp e
    have hx := inz_of q e1
    subst hx
    exact gives_c (.int _) fun Q qq => ⟨_, bs, rfl, SqL.of (S _ _ h), qq⟩
  | _ => cases e
def fMax2 : D → D → Option D
  | .int i, .int j => some (.int (if j > i then j else i))
  | _, _ => none
def fMin2 : D → D → Option D
  | .int i, .int j => some (.int (if j < i then j else i))
  | _, _ => none
theorem c_max2 : CallD Γ (fun xs H Q => ∃ i j, xs = [.int i, .int j] ∧ Q (.int (if j > i then j else i)) H) (f2 fMax2) := call2 fun R H v u dx dy d e S z1 z2 => by
  cases z1 with
  | int i => cases z2 with
    | int j => cases e; exact gives_c (.int _) fun Q qq => ⟨i, j, rfl, qq⟩
    | _ => cases e
  | _ => cases e
theorem c_min2 : CallD Γ (fun xs H Q => ∃ i j, xs = [.int i, .int j] ∧ Q (.int (if j < i then j else i)) H) (f2 fMin2) := call2 fun R H v u dx dy d e S z1 z2 => by
  cases z1 with
  | int i => cases z2 with
    | int j => cases e; exact gives_c (.int _) fun Q qq => ⟨i, j, rfl, qq⟩
    | _ => cases e
  | _ => cases e
end
/-! isinstance -/
def D.tyn : D → Option String
  | .non => some "NoneType"
  | .bl _ => some "bool"
  | .int _ => some "int"
  | .str _ => some "str"
  | .tup _ => some "tuple"
  | .lst _ => some "list"
  | .dk _ _ => some "dict"
  | _ => none
theorem Fz.tyx {c : Cn} {R H : Hp} {v : V} {d : D} {t : String} (h : Fz c R v d) (S : Same R H) (e : d.tyn = some t) : TyX c.K H v (.type t) := by
  cases h with
  | non => cases e; exact .base .non
  | bl b => cases e; exact .base (.bl b)
  | int i => cases e; exact .base (.int i)
  | str x _ => cases e; exact .base (.str x)
  | tup h _ _ =>
    cases e
    rcases S.le.sqT h with (h | ⟨o, h⟩) | ⟨o, its, n, h, hc, _⟩
    · exact .base (.tup h)
    · exact .fTuple h
    · exact .kTuple h hc
  | lst h _ _ => cases e; exact .base (.lst (S _ _ h))
  | dk h _ _ =>
    cases e
    rcases S.le.1 _ _ h with h | ⟨o, h⟩
    · exact .base (.dK h)
    · exact .fDict h
  | ins _ _ => cases e
  | deck => cases e
def fIsi (T : String) (d : D) : Option D := d.tyn.bind fun t => (kitB t T).map .bl
section
variable {X : Cx} {Γ : Gm} {p pos : Pos} {e e2 : Expr} {ta : Ed} {T : String}
theorem d_isi (ha : DE X Γ e ta) (hty : PE X e2 (tC (.ty T))) (hg : Gl X "isinstance") (hm : X.mg "isinstance" = none) (hK : X.K = Γ.c.K := by rfl)
    (he : starEach [e, e2] X.env = (false, eval e X.env) :: starEach [e2] X.env := by rfl) (he2 : starEach [e2] X.env = (false, eval e2 X.env) :: starEach [] X.env := by rfl) (hpl : (backTo pos (starEach [e2] X.env)).any (·.1) = false := by rfl) :
    DE X Γ (.Call (.Name "isinstance" p) [e, e2] [] pos) (e1 (fIsi T) ta) :=
  ⟨PE.wk (pe_callB call_isi hg hm (by decide +kernel) (pa_cons ha.p (pa_cons hty pa_nil he2) he) (by decide) (by decide) he hpl) fun σ H Q ⟨R, ρ, n, r, n', rp, e, q⟩ => by
    obtain ⟨x, m, e1, e⟩ := Mb_some e
    obtain ⟨ee, rfl⟩ := Mo_some e
    obtain ⟨t, et, ek⟩ := Option.bind_eq_some_iff.mp ee
    obtain ⟨b, eb, rfl⟩ := Option.map_eq_some_iff.mp ek
    refine ⟨R, ρ, n, x, _, rp, e1, fun v R1 H1 rp1 S1 z1 => ?_⟩
    exact ⟨_, _, _, _, b, rfl, .ty T, hK ▸ z1.tyx rp1.hp.same et, kit_ty eb, q _ R1 H1 rp1 S1 (.bl b)⟩⟩
/-! xs.index(x) -/
def ixOf (x : D) : List D → Option Nat
  | [] => none
  | y :: r => if eqF y x = true then some 0 else (ixOf x r).map (· + 1)
def fIndex : D → D → Option D
  | .lst ds, x => if x.flt = true ∧ ds.all D.flt = true then (ixOf x ds).map fun j => .int (j : Nat) else none
  | _, _ => none
theorem ixOf_some {x : D} : ∀ {ds : List D} {j : Nat}, ixOf x ds = some j → (∃ z, ds[j]? = some z ∧ eqF z x = true) ∧ ∀ m z, m < j → ds[m]? = some z → eqF z x = false
  | [], j, e => by cases e
  | y :: r, j, e => by
    unfold ixOf at e
    by_cases h : eqF y x = true
    · rw [if_pos h] at e; cases e
      exact ⟨⟨y, rfl, h⟩, fun m z hm => absurd hm (Nat.not_lt_zero _)⟩
    · rw [if_neg h] at e
      obtain ⟨k, ek, rfl⟩ := Option.map_eq_some_iff.mp e
      obtain ⟨⟨z, h1, h2⟩, h3⟩ := ixOf_some ek
      refine ⟨⟨z, by simpa using h1, h2⟩, fun m z' hm hz => ?_⟩
      cases m with
      | zero => simp at hz; subst hz; simpa using h
      | succ m => exact h3 m z' (by omega) (by simpa using hz)
theorem d_index {o a : Expr} {to ta : Ed} {apos cpos : Pos} (ho : DE X Γ o to) (ha : DE X Γ a ta) (hbase : attributeBase o "index" X.env (eval o X.env) = eval o X.env := by rfl) (hline : (apos.endLine == cpos.line) = true := by rfl) (hs : starEach [a] X.env = (false, eval a X.env) :: starEach [] X.env := by rfl)
    (hfew : ((backTo cpos (starEach [a] X.env)).all (fun x => !x.1) && (backToKw cpos (keywordEach [] X.env)).all (fun x => x.1.isSome) && decide ([a].length + ([] : List Keyword).length + (if ([] : List Keyword).isEmpty then 0 else 1) < 30)) = true := by rfl) (hpl : (backTo cpos (starEach [] X.env)).any (·.1) = false := by rfl) :
    DE X Γ (.Call (.Attribute o "index" apos) [a] [] cpos) (Sh.e2 fIndex to ta) :=
  ⟨PE.wk (pe_bm PySem.F.plainAttrs_list PySem.F.slot_list_index PySem.F.type_list_index mt_index ho.p (pa_cons ha.p pa_nil hs) hbase hfew hline hs hpl) fun σ H Q ⟨R, ρ, n, r, n', rp, e, q⟩ => by
    obtain ⟨x, m, e1, e⟩ := Mb_some e
    obtain ⟨y, m2, e2, e⟩ := Mb_some e
    obtain ⟨ee, rfl⟩ := Mo_some e
    refine ⟨R, ρ, n, x, m, rp, e1, fun v R1 H1 rp1 S1 z1 => ?_⟩
    cases z1 with
    | @lst aa xs ds h l f =>
      obtain ⟨hf, ej⟩ := ite_some ee
      obtain ⟨j, ej2, rfl⟩ := Option.map_eq_some_iff.mp ej
      refine ⟨.inl ⟨rfl, _, SqL.of (rp1.hp.same _ _ h)⟩, R1, ρ, m, y, _, rp1, e2, fun u R2 H2 rp2 S2 z2 => ?_⟩
      have f2 := f.mono S2.le
      obtain ⟨⟨z, hz, hzx⟩, hno⟩ := ixOf_some ej2
      obtain ⟨zv, hzv, hzf⟩ := f2.get hz
      refine ⟨_, _, _, j, zv, rfl, rfl, SqL.of (rp2.hp.same _ _ (S2.same _ _ h)), by rw [z2.flt]; exact hf.1, by rw [f2.flt]; exact hf.2, hzv, by rw [hzf.eqF z2]; exact hzx, fun k z' hk hz' => ?_, q _ R2 H2 rp2 (S1.trans S2) (.int _)⟩
      obtain ⟨d', hd', hf'⟩ := f2.getV hz'
      rw [hf'.eqF z2]
      exact hno k d' hk hd'
    | _ => cases ee⟩
end
end Sh

set_option Elab.async false
set_option linter.all false
set_option maxRecDepth 100000
namespace Sh
open PySem L2 Nf
section
variable {Γ : Gm} {R R' H H' : Hp} {σ σ' : L2.St} {ρ : Sd} {n n' : Nat}
theorem Rp.along (h : Rp Γ R H σ ρ n) (g : Go Γ R H R' H') (k : HpOk Γ R' H' n') : Rp Γ R' H' σ ρ n' := by
  refine ⟨h.len, fun i d hi e => ?_, fun i d hi e => ?_, h.dist, k⟩
  · obtain ⟨v, h1, h2⟩ := h.fz i d hi e
    exact ⟨v, h1, h2.mono g.le⟩
  · obtain ⟨a, u, h1, h2, h3, h4, h5⟩ := h.own i d hi e
    have hd : a ∉ Γ.W.dom := fun m => h.hp.d0 a m h4
    refine ⟨a, u, h1, g.keep a u h2 hd, ?_, h4, h5.mono g.le⟩
    cases q : R' a with
    | none => rfl
    | some z =>
      rcases g.new a (by rw [q]; exact fun z => nomatch z) with z | z
      · exact absurd h3 z
      · rw [z] at h2; cases h2
/-- p is no owned object's address -/
def NoO (Γ : Gm) (σ : L2.St) (ρ : Sd) (p : Addr) : Prop := ∀ i d, i ∈ Γ.ow → ρ[i]? = some (some d) → σ[i]? ≠ some (some (.ref p))
theorem Rp.noO {p : Addr} (h : Rp Γ R H σ ρ n) (hp : H p = none) : NoO Γ σ ρ p := fun i d hi e z => by
  obtain ⟨a, u, h1, h2, _⟩ := h.own i d hi e
  rw [z] at h1; cases h1
  rw [hp] at h2; cases h2
theorem Rp.mutO {p : Addr} {o : HO} (h : Rp Γ R H σ ρ n) (hR : R p = none) (h0 : Γ.H0 p = none) (hn : NoO Γ σ ρ p) : Rp Γ R (upd H p o) σ ρ n := by
  refine ⟨h.len, h.fz, fun i d hi e => ?_, h.dist, h.hp.mut hR h0⟩
  obtain ⟨a, u, h1, h2, h3, h4, h5⟩ := h.own i d hi e
  have : a ≠ p := fun z => hn i d hi e (z ▸ h1)
  exact ⟨a, u, h1, by rw [upd_ne this]; exact h2, h3, h4, h5⟩
theorem HpOk.freeze {p : Addr} {o : HO} (h : HpOk Γ R H n) (hp : H p = some o) (hR : R p = none) (h0 : Γ.H0 p = none) : HpOk Γ (upd R p o) H n := by
  have hpd : p ∉ Γ.W.dom := fun m => h.d0 p m h0
  refine ⟨fun a u e => ?_, fun a m => ?_, h.d0, h.wd, h.keep, h.r0.trans (same_new hR _), fun a e => ?_⟩
  · by_cases q : a = p
    · subst q; rw [upd_same] at e; cases e; exact hp
    · rw [upd_ne q] at e; exact h.same _ _ e
  · have : a ≠ p := fun q => hpd (q ▸ m)
    rw [upd_ne this]; exact h.dj a m
  · by_cases q : a = p
    · subst q; exact .inr h0
    · rw [upd_ne q] at e; exact h.new a e
theorem Rp.freeze {p : Addr} {o : HO} (h : Rp Γ R H σ ρ n) (hp : H p = some o) (hR : R p = none) (h0 : Γ.H0 p = none) (hn : NoO Γ σ ρ p) : Rp Γ (upd R p o) H σ ρ n := by
  refine ⟨h.len, fun i d hi e => ?_, fun i d hi e => ?_, h.dist, h.hp.freeze hp hR h0⟩
  · obtain ⟨v, h1, h2⟩ := h.fz i d hi e
    exact ⟨v, h1, h2.mono (same_new hR o).le⟩
  · obtain ⟨a, u, h1, h2, h3, h4, h5⟩ := h.own i d hi e
    have : a ≠ p := fun z => hn i d hi e (z ▸ h1)
    exact ⟨a, u, h1, h2, by rw [upd_ne this]; exact h3, h4, h5.mono (same_new hR o).le⟩
theorem Go.lay0 {p : Addr} {o : HO} (g : Go Γ R H R' H') (hp : H' p = none) : Go Γ R H R' (upd H' p o) :=
  ⟨g.same, g.keep.new hp, g.new, fun a e => g.nn a (by
    by_cases q : a = p
    · subst q; exact hp
    · rw [upd_ne q] at e; exact e)⟩
theorem Go.mutN {p : Addr} {o : HO} (g : Go Γ R H R' H') (hp : H p = none) : Go Γ R H R' (upd H' p o) :=
  ⟨g.same, g.keep.mutN hp, g.new, fun a e => by
    by_cases q : a = p
    · subst q; exact hp
    · rw [upd_ne q] at e; exact g.nn a e⟩
theorem Go.freeze {p : Addr} {o : HO} (g : Go Γ R H R' H') (hp : H p = none) (hR : R' p = none) : Go Γ R H (upd R' p o) H' :=
  ⟨g.same.trans (same_new hR _), g.keep, fun a e => by
    by_cases q : a = p
    · subst q; exact .inr hp
    · rw [upd_ne q] at e; exact g.new a e, g.nn⟩
/-- slots forgotten -/
def wipeD (ρ : Sd) : List Nat → Sd
  | [] => ρ
  | v :: vs => (wipeD ρ vs).set v none
theorem wipeD_len (ρ : Sd) : ∀ vs : List Nat, (wipeD ρ vs).length = ρ.length
  | [] => rfl
  | v :: vs => by unfold wipeD; rw [List.length_set, wipeD_len ρ vs]
theorem wipeD_some {ρ : Sd} {i : Nat} {x : D} : ∀ {vs : List Nat}, (wipeD ρ vs)[i]? = some (some x) → ρ[i]? = some (some x) ∧ i ∉ vs
  | [], h => ⟨h, by simp⟩
  | v :: vs, h => by
    unfold wipeD at h
    by_cases hi : v = i
    · subst hi
      by_cases hv : v < (wipeD ρ vs).length
      · rw [List.getElem?_set_self hv] at h; cases h
      · rw [List.getElem?_eq_none (by rw [List.length_set]; omega)] at h; cases h
    · rw [List.getElem?_set_ne hi] at h
      obtain ⟨h1, h2⟩ := wipeD_some (vs := vs) h
      exact ⟨h1, fun z => (List.mem_cons.mp z).elim (fun e => hi e.symm) h2⟩
theorem wipe_out {σ : L2.St} {i : Nat} : ∀ {vs : List Nat}, i ∉ vs → (wipe σ vs)[i]? = σ[i]?
  | [], _ => rfl
  | v :: vs, h => by
    rw [List.mem_cons, not_or] at h
    unfold wipe
    rw [List.getElem?_set_ne (fun e => h.1 e.symm)]
    exact wipe_out h.2
theorem wipe_in {σ : L2.St} {i : Nat} : ∀ {vs : List Nat}, i ∈ vs → i < σ.length → (wipe σ vs)[i]? = some none
  | v :: vs, h, hl => by
    unfold wipe
    by_cases e : v = i
    · subst e; rw [List.getElem?_set_self (by rw [wipe_length]; exact hl)]
    · rw [List.getElem?_set_ne e]
      exact wipe_in ((List.mem_cons.mp h).resolve_left fun z => e z.symm) hl
theorem wipe_eq {vs : List Nat} (hl : σ'.length = σ.length) (h : ∀ i, i ∉ vs → σ'[i]? = σ[i]?) : wipe σ' vs = wipe σ vs := by
  apply List.ext_getElem?
  intro i
  by_cases m : i ∈ vs
  · by_cases hi : i < σ.length
    · rw [wipe_in m hi, wipe_in m (by omega)]
    · rw [List.getElem?_eq_none (by rw [wipe_length]; omega), List.getElem?_eq_none (by rw [wipe_length]; omega)]
  · rw [wipe_out m, wipe_out m, h i m]
theorem Rp.wipe (h : Rp Γ R H σ ρ n) (vs : List Nat) : Rp Γ R H (L2.wipe σ vs) (wipeD ρ vs) n := by
  refine ⟨by rw [wipe_length, wipeD_len]; exact h.len, fun i d hi e => ?_, fun i d hi e => ?_, fun i j a d1 d2 hi hj e1 e2 s1 s2 => ?_, h.hp⟩
  · obtain ⟨e1, e2⟩ := wipeD_some e
    rw [wipe_out e2]; exact h.fz i d hi e1
  · obtain ⟨e1, e2⟩ := wipeD_some e
    rw [wipe_out e2]; exact h.own i d hi e1
  · obtain ⟨f1, f2⟩ := wipeD_some e1
    obtain ⟨g1, g2⟩ := wipeD_some e2
    rw [wipe_out f2] at s1
    rw [wipe_out g2] at s2
    exact h.dist i j a d1 d2 hi hj f1 g1 s1 s2
end
/-! targets -/
abbrev Gd := D → Sd → Option Sd
def upG (Γ : Gm) (vs : List Nat) (g : Gd) : TG := fun v σ H Q => ∃ R ρ n d ρ', Rp Γ R H σ ρ n ∧ Fz Γ.c R v d ∧ g d ρ = some ρ' ∧ ∀ σ', σ'.length = σ.length → (∀ i, i ∉ vs → σ'[i]? = σ[i]?) → Rp Γ R H σ' ρ' n → Q σ' H
structure DG (X : Cx) (Γ : Gm) (e : Expr) (vs : List Nat) (g : Gd) : Prop where
  p : PG X e (upG Γ vs g)
def upGs (Γ : Gm) (vs : List Nat) (g : List D → Sd → Option Sd) : TGs := fun v σ H Q => ∃ R ρ n d ρ', Rp Γ R H σ ρ n ∧ FzA Γ.c R v d ∧ g d ρ = some ρ' ∧ ∀ σ', σ'.length = σ.length → (∀ i, i ∉ vs → σ'[i]? = σ[i]?) → Rp Γ R H σ' ρ' n → Q σ' H
structure DGs (X : Cx) (Γ : Gm) (es : List Expr) (k : Nat) (vs : List Nat) (g : List D → Sd → Option Sd) : Prop where
  p : PGs X es (upGs Γ vs g)
  len : ∀ ds ρ ρ', g ds ρ = some ρ' → ds.length = k
theorem PG.wk {X : Cx} {e : Expr} {t t' : TG} (h : PG X e t) (k : ∀ v σ H Q, t' v σ H Q → t v σ H Q) : PG X e t' := ⟨fun pins s σ H v u Q I r q => h.run pins s σ H v u Q I r (k v σ H Q q)⟩
theorem PGs.wk {X : Cx} {e : List Expr} {t t' : TGs} (h : PGs X e t) (k : ∀ v σ H Q, t' v σ H Q → t v σ H Q) : PGs X e t' := ⟨fun pins s σ H v u Q I r q => h.run pins s σ H v u Q I r (k v σ H Q q)⟩
section
variable {X : Cx} {Γ : Gm}
def gN (i : Nat) : Gd := fun d ρ => some (ρ.set i (some d))
theorem dg_name {i : Nat} {e : Expr} (h : PG X e (gName i)) (hi' : Γ.ow.contains i = false := by rfl) : DG X Γ e [i] (gN i) := have hi := nmem_of hi'; ⟨PG.wk h fun v σ H Q ⟨R, ρ, n, d, ρ', rp, z, e, q⟩ => by
  cases e
  exact q _ (List.length_set ..) (fun j hj => List.getElem?_set_ne (fun z => hj (by simp [z]))) (rp.set hi z)⟩
def gsN : List D → Sd → Option Sd
  | [], ρ => some ρ
  | _, _ => none
def gsC (g : Gd) (gs : List D → Sd → Option Sd) : List D → Sd → Option Sd
  | d :: ds, ρ => (g d ρ).bind (gs ds)
  | _, _ => none
theorem dgs_nil : DGs X Γ [] 0 [] gsN := ⟨PGs.wk pgs_nil (fun v σ H Q ⟨R, ρ, n, d, ρ', rp, z, e, q⟩ => by
  cases z with
  | nil => cases e; exact ⟨rfl, q σ rfl (fun _ _ => rfl) rp⟩
  | cons _ _ => cases e), fun ds ρ ρ' e => by cases ds with | nil => rfl | cons _ _ => cases e⟩
theorem dgs_cons {e : Expr} {es : List Expr} {k : Nat} {v1 v2 : List Nat} {g : Gd} {gs : List D → Sd → Option Sd} (h1 : DG X Γ e v1 g) (h2 : DGs X Γ es k v2 gs)
    (hs : (assignEach (e :: es) X.env).map (·.2) = assign e X.env :: (assignEach es X.env).map (·.2) := by rfl) : DGs X Γ (e :: es) (k + 1) (v1 ++ v2) (gsC g gs) := ⟨PGs.wk (pgs_cons h1.p h2.p hs) (fun v σ H Q ⟨R, ρ, n, d, ρ', rp, z, e, q⟩ => by
  cases z with
  | nil => cases e
  | cons za zb =>
    obtain ⟨ρ1, e1, e2⟩ := Option.bind_eq_some_iff.mp (show (g _ ρ).bind (gs _) = _ from e)
    refine ⟨_, _, rfl, R, ρ, n, _, ρ1, rp, za, e1, fun σ1 hl1 ha1 rp1 => ⟨R, ρ1, n, _, ρ', rp1, zb, e2, fun σ2 hl2 ha2 rp2 => q σ2 (hl2.trans hl1) (fun i hi => ?_) rp2⟩⟩
    rw [List.mem_append, not_or] at hi
    rw [ha2 i hi.2, ha1 i hi.1]), fun ds ρ ρ' e => by
  cases ds with
  | nil => cases e
  | cons d r =>
    obtain ⟨ρ1, e1, e2⟩ := Option.bind_eq_some_iff.mp (show (g d ρ).bind (gs r) = _ from e)
    rw [List.length_cons, h2.len _ _ _ e2]⟩
def gT (gs : List D → Sd → Option Sd) : Gd
  | .tup ds, ρ => gs ds ρ
  | _, _ => none
theorem dg_tup {es : List Expr} {kk k : Nat} {vs : List Nat} {gs : List D → Sd → Option Sd} {pos : Pos} (h : DGs X Γ es k vs gs) (hc : X.calm = true := by rfl) (hn : (assignEach es X.env).length = k := by rfl) (hst : (assignEach es X.env).findIdx? (·.1) = none := by rfl) (hK : X.K = Γ.c.K := by rfl) :
    DG X Γ (.Tuple es kk pos) vs (gT gs) := ⟨PG.wk (pg_tup hc h.p hn hst) fun v σ H Q ⟨R, ρ, n, d, ρ', rp, z, e, q⟩ => by
  cases z with
  | tup hh l f => exact ⟨_, _, rfl, hK ▸ rp.hp.same.le.sqT hh, by rw [f.len]; exact h.len _ _ _ e, R, ρ, n, _, ρ', rp, f, e, q⟩
  | _ => cases e⟩
end
/-! what is walked -/
def YOk (c : Cn) (R : Hp) (ds : List D) (Y : Nat → Hp → V → Hp → Prop) : Prop := ∀ i H x H' d, ds[i]? = some d → Y i H x H' →
  (H' = H ∧ Fz c R x d) ∨ ∃ T vs es, x = .ref T ∧ H T = none ∧ H' = upd H T (.tup vs) ∧ d = .tup es ∧ vs.length ≤ sizeLine ∧ FzA c R vs es
abbrev Id' := Sd → M (List D)
def upI (Γ : Gm) (ti : Id') : TI := fun σ H K => ∃ R ρ n ds n', Rp Γ R H σ ρ n ∧ ti ρ n = some (ds, n') ∧ ∀ J G Y R' H', Rp Γ R' H' σ ρ n' → Go Γ R H R' H' → Walk J ds.length G Y → (∀ H2, Same R' H2 → G H2) → YOk Γ.c R' ds Y → ds.length ≤ sizeLine → K J H'
structure DI (X : Cx) (Γ : Gm) (tg iter : Expr) (ti : Id') : Prop where
  p : PI X tg iter (upI Γ ti)
theorem PI.wk {X : Cx} {tg e : Expr} {t t' : TI} (h : PI X tg e t) (k : ∀ σ H Q, t' σ H Q → t σ H Q) : PI X tg e t' := ⟨fun pins s σ H Q I q => h.run pins s σ H Q I (k σ H Q q)⟩
theorem PI.or {X : Cx} {tg e : Expr} {t t' : TI} (h : PI X tg e t) (h' : PI X tg e t') : PI X tg e fun σ H Q => t σ H Q ∨ t' σ H Q := ⟨fun pins s σ H Q I q => by
  rcases q with q | q
  · exact h.run pins s σ H Q I q
  · exact h'.run pins s σ H Q I q⟩
section
variable {X : Cx} {Γ : Gm} {tg e : Expr} {t : Ed}
def fItems : D → Option (List D)
  | .tup ds => szl ds.length ds
  | .lst ds => szl ds.length ds
  | .str z => szl z.length (z.cps.toList.map fun c => .str ⟨#[c]⟩)
  | _ => none
def iSeq (t : Ed) : Id' := fun ρ => Mb (t ρ) fun d => Mo (fItems d)
theorem di_seq (h : DE X Γ e t) (hK : X.K = Γ.c.K := by rfl) : DI X Γ tg e (iSeq t) := ⟨PI.wk (PI.or (pi_list h.p) (PI.or (pi_tup h.p) (pi_str h.p))) fun σ H Q ⟨R, ρ, n, ds, n', rp, e, q⟩ => by
  obtain ⟨d, m, e1, e⟩ := Mb_some e
  obtain ⟨ee, rfl⟩ := Mo_some e
  cases d with
  | lst ds0 =>
    obtain ⟨h1, rfl⟩ := szl_some ee
    refine .inl ⟨R, ρ, n, _, _, rp, e1, fun v R1 H1 rp1 S1 z1 => ?_⟩
    obtain ⟨a, xs, rfl, ha, l, f⟩ := z1.lst_inv
    refine ⟨a, rfl, ⟨_, SqL.of (rp1.hp.same _ _ ha)⟩, q _ _ _ R1 H1 rp1 S1 (f.len ▸ walk_list (xs := xs)) (fun H2 S => SqL.of (S _ _ ha)) (fun i H2 x H3 d hd hy => .inl ⟨hy.1, ?_⟩) h1⟩
    obtain ⟨d', h1, h2⟩ := f.getV hy.2
    rw [hd] at h1; cases h1; exact h2
  | tup ds0 =>
    obtain ⟨h1, rfl⟩ := szl_some ee
    refine .inr (.inl ⟨R, ρ, n, _, _, rp, e1, fun v R1 H1 rp1 S1 z1 => ?_⟩)
    obtain ⟨a, xs, rfl, ha, l, f⟩ := z1.tup_inv
    refine ⟨a, rfl, ⟨xs, hK ▸ rp1.hp.same.le.sqT ha⟩, q _ _ _ R1 H1 rp1 S1 (f.len ▸ walk_tup (xs := xs)) (fun H2 S => hK ▸ S.le.sqT ha) (fun i H2 x H3 d hd hy => .inl ⟨hy.1, ?_⟩) h1⟩
    obtain ⟨d', h1, h2⟩ := f.getV hy.2
    rw [hd] at h1; cases h1; exact h2
  | str z =>
    obtain ⟨h1, rfl⟩ := szl_some ee
    refine .inr (.inr ⟨R, ρ, n, _, _, rp, e1, fun v R1 H1 rp1 S1 z1 => ?_⟩)
    obtain ⟨rfl, _⟩ := z1.str_inv
    have el : (z.cps.toList.map fun c => D.str ⟨#[c]⟩).length = z.cps.size := by rw [List.length_map, Array.length_toList]
    refine ⟨z, rfl, q _ _ _ R1 H1 rp1 S1 (el ▸ walk_str (z := z)) (fun H2 S => True.intro) (fun i H2 x H3 d hd hy => .inl ⟨hy.1, ?_⟩) (by rw [el]; exact h1)⟩
    obtain ⟨c, h2, rfl⟩ := hy.2
    rw [List.getElem?_map, Array.getElem?_toList, h2] at hd
    cases hd
    exact .str _ (one_len c)
  | _ => cases ee⟩
/-! range -/
def rngD (lo : Int) (k : Nat) : List D := (List.range k).map fun (i : Nat) => .int (lo + i)
theorem rngD_len (lo : Int) (k : Nat) : (rngD lo k).length = k := by unfold rngD; rw [List.length_map, List.length_range]
theorem rngD_yok {c : Cn} {R : Hp} (lo : Int) (k : Nat) : YOk c R (rngD lo k) (YFn fun (i : Nat) => .int (lo + i)) := fun i H x H' d hd hy => .inl ⟨hy.1, by
  have hi : i < k := by
    have := (List.getElem?_eq_some_iff.mp hd).1
    rwa [rngD_len] at this
  unfold rngD at hd
  rw [List.getElem?_map, List.getElem?_range hi] at hd
  cases hd
  rw [hy.2]
  exact .int _⟩
end
end Sh

set_option Elab.async false
set_option linter.all false
set_option maxRecDepth 100000
namespace Nf
open PySem PySem.Spec PyProof.Rows L2
section
variable {prog : Program} {w : World} {A : Around} {E : Value → Shared → Prop} {s : Shared}
theorem zt_end2 {z TI TO T i j t u : Addr} {f : Bool} {oT : Obj} {k : Nat} {xs ys : Array Value} {x : Value} {Q : Option Value → Shared → Prop} (hh : A.handled = none) (D : ZipApart z TI TO i j t u)
    (hz : IsZipHeld s.heap z TI TO T f) (hT : s.heap.get? T = some oT) (hTI : IsPair s.heap TI (.ref i) (.ref j))
    (hi : s.heap.IsTupleIter i t k) (hj : s.heap.IsTupleIter j u k) (ht : s.heap.IsTuple t xs) (hu : s.heap.IsTuple u ys) (hx : xs[k]? = some x) (hy : ys[k]? = none)
    (hQ : ∀ g, (∀ c o, c ≠ z → c ≠ i → c ≠ j → s.heap.get? c = some o → g.get? c = some o) → Q none { s with heap := g }) :
    wpAny (model prog w) A (pyNext (.ref z)) Q E s := by
  have ty : s.TypeIs (.ref z) "zip" := ⟨_, hz, rfl⟩
  unfold pyNext
  refine wpAny_bind (wpAny_attempt ?_)
  refine wpAny_callSpecial?_slot (name := Str.ofString "__next__") ty F.slot_zip_next ?_
  refine wpAny_call_entry F.slot_zip_next ty F.entry_zip_next ?_ (F.args_zip_next_1 _)
  show wpAny _ _ (field (.ref z) 2 >>= _) _ _ s
  refine wpAny_bind (wpAny_field hz rfl (x := .bool false) rfl ?_)
  show wpAny _ _ (field (.ref z) 3 >>= _) _ _ s
  refine wpAny_bind (wpAny_field hz rfl (x := .ref TI) rfl (wpAny_bind (wpAny_seqItems hTI rfl ?_)))
  show wpAny _ _ (Builtin.SmallTypes.ownedTupleIsFree (.ref z) >>= _) _ _ s
  refine wpAny_bind (wpAny_tupleHeld_zip hz hT fun g1 z1 s1 => ?_)
  simp only [Bool.false_eq_true, if_false]
  refine wpAny_bind ?_
  rw [← Array.forIn_toList]
  simp only [List.forIn_cons, List.forIn_nil]
  refine wpAny_bind (wpAny_bind (wpAny_holding ?_))
  show wpAny _ _ (Builtin.SmallTypes.nextOf (.ref i) >>= _) _ _ _
  refine wpAny_bind (wpAny_nextOf_tuple_item (s := { s with heap := g1 }) (hi.extBut s1.extBut D.i1z) (ht.extBut s1.extBut D.l1z) hx fun g2 i2 s2 => wpAny_pure (wpAny_pure ?_))
  refine wpAny_bind (wpAny_bind (wpAny_holding ?_))
  show wpAny _ _ (Builtin.SmallTypes.nextOf (.ref j) >>= _) _ _ _
  refine wpAny_bind (wpAny_nextOf_tuple_end (s := { s with heap := g2 }) hh ((hj.extBut s1.extBut D.i2z).extBut s2.extBut D.i12.symm) ((hu.extBut s1.extBut D.l2z).extBut s2.extBut D.l2i1) hy fun g3 e s3 he => ?_)
  obtain ⟨oz, hoz, hcz⟩ := he
  exact wpAny_bind (wpAny_isInstance (T := "StopIteration") (b := true) ⟨oz, hoz, hcz⟩ isSubtype_stop (wpAny_pure (hQ _ fun c o n1 n2 n3 q => s3 _ _ n3 (s2.extBut _ _ n2 (s1.extBut _ _ n1 q)))))
theorem zs_end2 {xs ys : Array Value} {z TI TO i j t u S : Addr} {k : Nat} {Q : Option Value → Shared → Prop} (hh : A.handled = none) (D : ZipApart z TI TO i j t u) (Z : ZSt xs ys z TI TO i j t u S k s.heap) (hx : min xs.size ys.size ≤ k)
    (hQ : ∀ g, (∀ c o, c ≠ z → c ≠ TO → c ≠ i → c ≠ j → s.heap.get? c = some o → g.get? c = some o) → Q none { s with heap := g }) : wpAny (model prog w) A (pyNext (.ref z)) Q E s := by
  by_cases h1 : k < xs.size
  · have hy : ys[k]? = none := Array.getElem?_eq_none (by omega)
    have hx1 : xs[k]? = some xs[k] := by simp [h1]
    rcases Z.st with ⟨hz, a, b, hTO⟩ | ⟨T, f, oT, hz, hT, _⟩
    · exact RZ.pyNext_zipT_end hh D hz Z.ti hTO Z.hi Z.hj Z.ht Z.hu (.inr hy) hQ
    · exact zt_end2 hh D hz hT Z.ti Z.hi Z.hj Z.ht Z.hu hx1 hy fun g hk => hQ g fun c o c1 _ c3 c4 e => hk c o c1 c3 c4 e
  · exact zs_end hh D Z (Array.getElem?_eq_none (by omega)) hQ
end
section
variable {prog : Program} {w : World} {A : Around} {s : Shared} {R : Result → Shared → Prop} {xs ys : Array Value} {z TI TO i j t u S : Addr}
theorem zs_loop2 (hh : A.handled = none) (D : ZipApart z TI TO i j t u) (hlo : ∀ b ∈ [z, TI, TO, i, j, t, u], b < S) (hn : min xs.size ys.size ≤ sizeLine) (res : Value) {h0 : Heap}
    (hR : ∀ g tk acc c as, (∀ b o, b ≠ S → b ≠ z → b ≠ TO → b ≠ i → b ≠ j → h0.get? b = some o → g.get? b = some o) → g.get? S = some { cls := .type "list", dict := none, data := .seq acc c, slots := #[] } → as.length = min xs.size ys.size → ZG xs ys S g as →
      acc.toList = as.map Value.ref → R (.ok (.ret res)) { s with heap := g, toks := tk }) :
    ∀ (n k : Nat) (h : Heap) (tk c : Nat) (acc : Array Value) (as : List Addr), min xs.size ys.size - k = n → k ≤ min xs.size ys.size → ZSt xs ys z TI TO i j t u S k h → (∀ b o, b ≠ S → b ≠ z → b ≠ TO → b ≠ i → b ≠ j → h0.get? b = some o → h.get? b = some o) →
      h.get? S = some { cls := .type "list", dict := none, data := .seq acc c, slots := #[] } → acc.toList = as.map Value.ref → as.length = k → ZG xs ys S h as →
      codeAny (model prog w) A (.builtin "list.extend.loop" ⟨[.ref S, .ref z, res], []⟩) R { s with heap := h, toks := tk } := by
  have nS : ∀ b ∈ [z, TI, TO, i, j, t, u], b ≠ S := fun b hb => Nat.ne_of_lt (hlo b hb)
  have zS := nS z (by simp)
  intro n
  induction n with
  | zero =>
    intro k h tk c acc as hnk hk Z kp hS hacc hal G
    refine codeAny_builtin F.entry_extend_loop ?_
    rw [Around.under_plainId F.plain_extend_loop _]
    show wpAny _ A.in1 (pyNext (.ref z) >>= _) _ _ _
    refine wpAny_bind (zs_end2 (s := { s with heap := h, toks := tk }) (A := A.in1) hh D Z (by omega) fun g hk' => ?_)
    have off : ∀ b o, S < b → h.get? b = some o → g.get? b = some o := fun b o hb e =>
      hk' b o (Nat.ne_of_gt (Nat.lt_trans (hlo z (by simp)) hb)) (Nat.ne_of_gt (Nat.lt_trans (hlo TO (by simp)) hb)) (Nat.ne_of_gt (Nat.lt_trans (hlo i (by simp)) hb)) (Nat.ne_of_gt (Nat.lt_trans (hlo j (by simp)) hb)) e
    refine wpAny_pure (hR g tk acc c as (fun b o b1 b2 b3 b4 b5 e => hk' b o b2 b3 b4 b5 (kp b o b1 b2 b3 b4 b5 e)) (hk' S _ (Ne.symm zS) (Ne.symm (nS TO (by simp))) (Ne.symm (nS i (by simp))) (Ne.symm (nS j (by simp))) hS) (by omega) ⟨G.rise, G.above, fun m a hm => ?_⟩ hacc)
    obtain ⟨x, y, e1, e2, e3⟩ := G.pairs m a hm
    exact ⟨x, y, e1, e2, off a _ (G.above a (List.mem_of_getElem? hm)) e3⟩
  | succ n ih =>
    intro k h tk c acc as hnk hk Z kp hS hacc hal G
    have hlt : k < min xs.size ys.size := by omega
    have hx : xs[k]? = some (xs[k]'(by omega)) := by simp [show k < xs.size by omega]
    have hy : ys[k]? = some (ys[k]'(by omega)) := by simp [show k < ys.size by omega]
    have hsz : acc.size = k := by rw [← Array.length_toList, hacc, List.length_map, hal]
    have hSl : S < h.objs.size := Heap.lt_size hS
    refine codeAny_builtin F.entry_extend_loop ?_
    rw [Around.under_plainId F.plain_extend_loop _]
    show wpAny _ A.in1 (pyNext (.ref z) >>= _) _ _ _
    refine wpAny_bind (zs_item (s := { s with heap := h, toks := tk }) D Z hSl (fun b hb => Nat.lt_trans (hlo b (by simp at hb ⊢; rcases hb with h | h | h <;> simp [h])) hSl) D.TITO hx hy fun g Z' hp hz hk' => ?_)
    dsimp only at hp hz hk' ⊢
    have hS' := hk' S _ (Ne.symm zS) (Ne.symm (nS TO (by simp))) (Ne.symm (nS i (by simp))) (Ne.symm (nS j (by simp))) hS
    have up : ∀ b o, b ≠ S → g.get? b = some o → (g.update S (Obj.mapSeq (·.push (Value.ref h.objs.size)))).get? b = some o := fun b o hb e => (Heap.get?_update_other _ _ (Ne.symm hb)).trans e
    have off : ∀ b o, S < b → h.get? b = some o → g.get? b = some o := fun b o hb e =>
      hk' b o (Nat.ne_of_gt (Nat.lt_trans (hlo z (by simp)) hb)) (Nat.ne_of_gt (Nat.lt_trans (hlo TO (by simp)) hb)) (Nat.ne_of_gt (Nat.lt_trans (hlo i (by simp)) hb)) (Nat.ne_of_gt (Nat.lt_trans (hlo j (by simp)) hb)) e
    have there : ∀ a ∈ as, a < h.objs.size := fun a ha => by
      obtain ⟨m, hm⟩ := List.mem_iff_getElem?.mp ha
      obtain ⟨_, _, _, _, e⟩ := G.pairs m a hm
      exact Heap.lt_size e
    show wpAny _ A.in1 (updateSeq S (·.push (Value.ref h.objs.size)) >>= _) _ _ _
    refine wpAny_bind ?_
    refine wpAny_updateSeq hS' rfl (wpAny_pure ⟨plainId_quiet F.plain_extend_loop _, ih (k + 1) _ tk _ (acc.push (Value.ref h.objs.size)) (as ++ [h.objs.size]) (by omega) hlt (Z'.up nS up)
      (fun b o b1 b2 b3 b4 b5 e => up b o b1 (hk' b o b2 b3 b4 b5 (kp b o b1 b2 b3 b4 b5 e))) (Heap.get?_update_self _ hS' rfl) (by rw [Array.toList_push, hacc, List.map_append]; rfl) (by rw [List.length_append, hal]; rfl) ⟨?_, ?_, ?_⟩⟩) (by rw [hsz]; omega) (by show (acc.push (Value.ref h.objs.size)).size ≤ sizeLine + 1; rw [Array.size_push, hsz]; omega)
    · refine List.pairwise_append.mpr ⟨G.rise, List.pairwise_singleton _ _, fun a ha b hb => ?_⟩
      exact List.mem_singleton.mp hb ▸ there a ha
    · intro a ha
      rcases List.mem_append.mp ha with ha | ha
      · exact G.above a ha
      · exact List.mem_singleton.mp ha ▸ hSl
    · intro m b hm
      by_cases h1 : m < as.length
      · rw [List.getElem?_append_left h1] at hm
        obtain ⟨x', y', e1, e2, e3⟩ := G.pairs m b hm
        have hb := G.above b (List.mem_of_getElem? hm)
        exact ⟨x', y', e1, e2, up b _ (Nat.ne_of_gt hb) (off b _ hb e3)⟩
      · rw [List.getElem?_append_right (by omega)] at hm
        have h2 : m - as.length = 0 := by
          have := (List.getElem?_eq_some_iff.mp hm).1
          simp at this
          omega
        have h3 : m = k := by omega
        rw [h2] at hm
        have hb : h.objs.size = b := by simpa using hm
        subst hb h3
        exact ⟨_, _, hx, hy, up _ _ (Nat.ne_of_gt hSl) hp⟩
theorem zs_extend2 (hh : A.handled = none) (D : ZipApart z TI TO i j t u) (hlo : ∀ b ∈ [z, TI, TO, i, j, t, u], b < S) (hn : min xs.size ys.size ≤ sizeLine) (res : Value) (c0 : Nat)
    (Z : ZSt xs ys z TI TO i j t u S 0 s.heap) (hz : IsZip s.heap z TI TO .none) (hS : s.heap.get? S = some { cls := .type "list", data := .seq #[] c0 })
    (hR : ∀ g tk acc c as, (∀ b o, b ≠ S → b ≠ z → b ≠ TO → b ≠ i → b ≠ j → s.heap.get? b = some o → g.get? b = some o) → g.get? S = some { cls := .type "list", dict := none, data := .seq acc c, slots := #[] } → as.length = min xs.size ys.size → ZG xs ys S g as →
      acc.toList = as.map Value.ref → R (.ok (.ret res)) { s with heap := g, toks := tk }) :
    wpAny (model prog w) A.in1 (Builtin.List.listExtendWith (.ref S) (.ref z) res)
      (fun fin q => match fin with | .done f => R (.ok f) q | .again c => c.quiet = true ∧ codeAny (model prog w) A c R q) (fun e q => R (.error e) q) s := by
  have nS : ∀ b ∈ [z, TI, TO, i, j, t, u], b ≠ S := fun b hb => Nat.ne_of_lt (hlo b hb)
  have hSz : S ≠ z := Ne.symm (nS z (by simp))
  have ty : s.TypeIs (.ref z) "zip" := ⟨_, hz, rfl⟩
  unfold Builtin.List.listExtendWith
  refine wpAny_bind (wpAny_typeOf ty ?_)
  have b1 : Builtin.List.listSameRef (.ref S) (.ref z) = false := by simp [Builtin.List.listSameRef, hSz]
  have b2 : (Value.type "zip" == Value.type "list") = false := by decide
  have b3 : (Value.type "zip" == Value.type "tuple") = false := by decide
  simp only [b1, b2, b3, Bool.or_false, Bool.false_eq_true, if_false]
  refine wpAny_bind (wpAny_pyIter_zip hz ?_)
  refine wpAny_bind (wpAny_holding ?_)
  unfold Builtin.List.listLengthHint
  refine wpAny_bind (wpAny_specialOf ty zip_len_none ?_)
  show wpAny _ A.in1 (specialOf (Value.ref z) (Str.ofString "__length_hint__") >>= _) _ _ s
  refine wpAny_bind (wpAny_specialOf ty zip_hint_none (wpAny_pure ?_))
  show wpAny _ A.in1 (rule "list.extend.makes-room" >>= fun _ => Builtin.List.listTouch (.ref S) >>= fun _ =>
    again (.builtin "list.extend.loop" ⟨[.ref S, .ref z, res], []⟩)) _ _ s
  refine wpAny_bind (wpAny_rule (wpAny_bind ?_))
  show wpAny _ A.in1 (updateSeq S (·.push .none) >>= fun _ => updateSeq S (·.pop)) _ _ s
  refine wpAny_bind (wpAny_updateSeq hS rfl ?_)
  have S2 := Heap.get?_update_self (Obj.mapSeq (·.push Value.none)) hS rfl
  refine wpAny_updateSeq (hz := by seq_fits) S2 rfl ?_
  have S3 := Heap.get?_update_self (Obj.mapSeq (·.pop)) S2 rfl
  have oth : ∀ b o, b ≠ S → s.heap.get? b = some o → ((s.heap.update S (Obj.mapSeq (·.push Value.none))).update S (Obj.mapSeq (·.pop))).get? b = some o :=
    fun b o hb e => (Heap.get?_update_other _ _ (Ne.symm hb)).trans ((Heap.get?_update_other _ _ (Ne.symm hb)).trans e)
  refine wpAny_pure ⟨plainId_quiet F.plain_extend_loop _, zs_loop2 (h0 := s.heap) hh D hlo hn res hR (min xs.size ys.size) 0 _ s.toks _ #[] [] (Nat.sub_zero _) (Nat.zero_le _) (Z.up nS oth) (fun b o b1 _ _ _ _ e => oth b o b1 e) S3 rfl rfl ⟨List.Pairwise.nil, (fun _ ha => nomatch ha), (fun m a hm => by simp at hm)⟩⟩
theorem zs_init2 (hh : A.handled = none) (D : ZipApart z TI TO i j t u) (hlo : ∀ b ∈ [z, TI, TO, i, j, t, u], b < S) (hn : min xs.size ys.size ≤ sizeLine)
    (Z : ZSt xs ys z TI TO i j t u S 0 s.heap) (hz : IsZip s.heap z TI TO .none) (hS : s.heap.get? S = some { cls := .type "list", data := .seq #[] })
    (hR : ∀ g tk acc c as, (∀ b o, b ≠ S → b ≠ z → b ≠ TO → b ≠ i → b ≠ j → s.heap.get? b = some o → g.get? b = some o) → g.get? S = some { cls := .type "list", dict := none, data := .seq acc c, slots := #[] } → as.length = min xs.size ys.size → ZG xs ys S g as →
      acc.toList = as.map Value.ref → R (.ok (.ret .none)) { s with heap := g, toks := tk }) :
    wpAny (model prog w) A.in1 (Builtin.«list.__init__» ⟨[.ref S, .ref z], []⟩)
      (fun fin q => match fin with | .done f => R (.ok f) q | .again c => c.quiet = true ∧ codeAny (model prog w) A c R q) (fun e q => R (.error e) q) s := by
  have nS : ∀ b ∈ [z, TI, TO, i, j, t, u], b ≠ S := fun b hb => Nat.ne_of_lt (hlo b hb)
  show wpAny _ A.in1 (do
    let old ← Builtin.List.listItems (.ref S)
    Builtin.List.listUpdate (.ref S) (fun _ => #[])
    letGo old.toList.reverse
    Builtin.List.listExtendWith (.ref S) (.ref z) .none) _ _ s
  refine wpAny_bind ?_
  unfold Builtin.List.listItems
  refine wpAny_bind (wpAny_seqItems hS rfl (wpAny_pure ?_))
  show wpAny _ A.in1 (updateSeq S (fun _ => #[]) >>= fun _ => letGo (#[] : Array Value).toList.reverse >>= fun _ => Builtin.List.listExtendWith (.ref S) (.ref z) .none) _ _ s
  refine wpAny_bind (wpAny_updateSeq hS rfl ?_)
  have S2 := Heap.get?_update_self (Obj.mapSeq (fun _ => (#[] : Array Value))) hS rfl
  have oth : ∀ b o, b ≠ S → s.heap.get? b = some o → (s.heap.update S (Obj.mapSeq (fun _ => (#[] : Array Value)))).get? b = some o := fun b o hb e => (Heap.get?_update_other _ _ (Ne.symm hb)).trans e
  refine wpAny_bind (wpAny_letGo ?_)
  exact zs_extend2 hh D hlo hn .none _ (Z.up nS oth) (oth _ _ (nS z (by simp)) hz) S2 fun g tk acc c as hk hS' hl hG hacc => hR g tk acc c as (fun b o b1 b2 b3 b4 b5 e => hk b o b1 b2 b3 b4 b5 (oth b o b1 e)) hS' hl hG hacc
end
theorem call_list_zipT2 {prog : Program} {w : World} {A : Around} {E : Value → Shared → Prop} {s : Shared} {xs ys : Array Value} {z TI TO i j t u : Addr} {Q : Value → Shared → Prop}
    (hh : A.handled = none) (D : ZipApart z TI TO i j t u) (hlo : ∀ b ∈ [z, TI, TO, i, j, t, u], b < s.heap.objs.size) (hn : min xs.size ys.size ≤ sizeLine)
    (hz : IsZip s.heap z TI TO .none) (hti : IsPair s.heap TI (.ref i) (.ref j)) (hto : IsPair s.heap TO .none .none) (hi : s.heap.IsTupleIter i t 0) (hj : s.heap.IsTupleIter j u 0) (ht : s.heap.IsTuple t xs) (hu : s.heap.IsTuple u ys)
    (hQ : ∀ g tk acc c as, (∀ b o, b ≠ z → b ≠ TO → b ≠ i → b ≠ j → s.heap.get? b = some o → g.get? b = some o) → g.get? s.heap.objs.size = some { cls := .type "list", dict := none, data := .seq acc c, slots := #[] } → as.length = min xs.size ys.size → ZG xs ys s.heap.objs.size g as →
      acc.toList = as.map Value.ref → Q (.ref s.heap.objs.size) { s with heap := g, toks := tk }) :
    wpAny (model prog w) A (call (.type "list") [.ref z]) Q E s := by
  refine callType_codes (Q₁ := fun obj q => obj = .ref s.heap.objs.size ∧ q = { s with heap := s.heap.push { cls := .type "list", data := .seq #[] } }) F.called_list (F.typeCall_list_1 _) F.entry_list_init
    (code_list_new _ ⟨rfl, rfl⟩) fun obj q hq => ?_
  obtain ⟨rfl, rfl⟩ := hq
  have hS : (s.heap.push { cls := .type "list", data := .seq #[] }).get? s.heap.objs.size = some { cls := .type "list", data := .seq #[] } := Heap.get?_push_size _ rfl
  have ps : ∀ b o, s.heap.get? b = some o → (s.heap.push { cls := .type "list", data := .seq #[] }).get? b = some o := fun b o e => Heap.get?_push_of_some _ e
  refine ⟨⟨_, hS, rfl⟩, F.args_list_init_2 _ _, ?_⟩
  refine zs_init2 (A := A.in1) hh D hlo hn ⟨.inl ⟨ps _ _ hz, _, _, ps _ _ hto⟩, ps _ _ hti, hi.at fun o e => ps _ _ e, hj.at fun o e => ps _ _ e, ht.at fun o e => ps _ _ e, hu.at fun o e => ps _ _ e⟩ (ps _ _ hz) hS fun g tk acc c as hk hS' hl hG hacc => ?_
  exact ⟨rfl, hQ g tk acc c as (fun b o b2 b3 b4 b5 e => hk b o (Nat.ne_of_lt (Heap.lt_size e)) b2 b3 b4 b5 (ps _ _ e)) hS' hl hG hacc⟩
end Nf

set_option Elab.async false
set_option linter.all false
set_option maxRecDepth 100000
namespace Nf
open PySem PySem.Spec PyProof.Rows L2
theorem pairs_laid2 {X : Cx} {pins : List (Addr × Obj)} {σ : L2.St} {H : Hp} {s : Shared} {g : Heap} {tk : Nat} {xs ys : List V} {its1 its2 : List Value} {acc : Array Value} {c : Nat} {as : List Addr} {S : Addr}
    (I : Inv X pins σ H s) (hS0 : s.heap.objs.size ≤ S) (r1 : Vals xs its1) (r2 : Vals ys its2) (hz : xs.length ≤ sizeLine)
    (hk : ∀ b o, s.heap.get? b = some o → g.get? b = some o) (hS : g.get? S = some { cls := .type "list", dict := none, data := .seq acc c, slots := #[] })
    (has : as.length = min its1.toArray.size its2.toArray.size) (G : ZG its1.toArray its2.toArray S g as) (hacc : acc.toList = as.map Value.ref) :
    ∃ H' : Hp, Same H H' ∧ H S = none ∧ (∀ a ∈ as, H a = none) ∧ H' S = some (.lst (as.map V.ref)) ∧ Paired (PrR H') as (xs.zip ys) ∧ Inv X pins σ H' { s with heap := g, toks := tk } := by
  have l1 : xs.length = its1.length := r1.length
  have l2 : ys.length = its2.length := r2.length
  have has' : as.length = min xs.length ys.length := by rw [has, l1, l2]; simp
  have lz : as.length = (xs.zip ys).length := by rw [List.length_zip]; omega
  have hSn : S ∉ as := fun z => Nat.lt_irrefl _ (G.above _ z)
  have nd : as.Nodup := List.Pairwise.imp (fun {a b} (h : a < b) => Nat.ne_of_lt h) G.rise
  have new : ∀ a ∈ as, H a = none := fun a ha => I.hok.fresh (Nat.le_trans hS0 (Nat.le_of_lt (G.above a ha)))
  have newS : H S = none := I.hok.fresh hS0
  have atP := putP_at as (xs.zip ys) (upd H S (.lst (as.map V.ref))) lz nd
  have off : ∀ b, b ∉ as → b ≠ S → putP (upd H S (.lst (as.map V.ref))) as (xs.zip ys) b = H b := fun b h1 h2 => by rw [putP_off as _ _ h1, upd_ne h2]
  have low : ∀ b o, s.heap.get? b = some o → b ∉ as ∧ b ≠ S := fun b o e =>
    ⟨fun z => absurd (Heap.lt_size e) (Nat.not_lt.mpr (Nat.le_trans hS0 (Nat.le_of_lt (G.above b z)))), Nat.ne_of_lt (Nat.lt_of_lt_of_le (Heap.lt_size e) hS0)⟩
  have kp : Same H (putP (upd H S (.lst (as.map V.ref))) as (xs.zip ys)) := fun b v e => by
    rw [off b (fun z => by rw [new b z] at e; cases e) (fun z => by rw [z, newS] at e; cases e)]
    exact e
  have eS : putP (upd H S (.lst (as.map V.ref))) as (xs.zip ys) S = some (.lst (as.map V.ref)) := by rw [putP_off as _ _ hSn, upd_same]
  refine ⟨putP (upd H S (.lst (as.map V.ref))) as (xs.zip ys), kp, newS, new, eS, atP, ?_⟩
  refine I.call' (ch := []) rfl ⟨fun b o q _ _ _ => hk b o q, fun b o q _ _ _ => ⟨o.slots, hk b o q⟩, fun b o q n _ => ?_, fun b o q _ => ⟨o, hk b o q⟩, fun b zs q => kp b _ q, fun b o v q => kp b _ q, fun b ps q => ⟨#[], by rw [kp b _ q]; simp⟩⟩
    (fun b v q => ?_) I.bare fun b z => by simp at z
  · obtain ⟨z1, z2⟩ := low b o q
    rw [off b z1 z2]
    exact n
  · by_cases hb : b ∈ as
    · obtain ⟨m, pk, e1, e2, e3⟩ := LiI.paired_ix atP hb
      have e3' : putP (upd H S (.lst (as.map V.ref))) as (xs.zip ys) b = some (.tup [pk.1, pk.2]) := e3
      rw [e3'] at q
      cases q
      obtain ⟨x, y, f1, f2, f3⟩ := G.pairs m b e1
      rw [List.getElem?_zip_eq_some] at e2
      obtain ⟨u1, g1, ru1⟩ := r1.get e2.1
      obtain ⟨u2, g2, ru2⟩ := r2.get e2.2
      have x1 : u1 = x := by
        have := f1.symm.trans (show its1.toArray[m]? = some u1 by simpa using g1)
        exact (Option.some.inj this).symm
      have y1 : u2 = y := by
        have := f2.symm.trans (show its2.toArray[m]? = some u2 by simpa using g2)
        exact (Option.some.inj this).symm
      subst x1 y1
      exact ⟨by show 2 ≤ sizeLine; decide, [u1, u2], .cons ru1 (.cons ru2 .nil), ⟨_, f3, rfl, _, rfl⟩⟩
    · by_cases hb2 : b = S
      · rw [hb2] at q ⊢
        rw [eS] at q
        cases q
        refine ⟨by rw [List.length_map]; omega, acc.toList, c, by rw [hacc]; exact LiI.vals_refs as, ?_⟩
        rw [Array.toArray_toList]
        exact hS
      · rw [off b hb hb2] at q
        exact (I.hok b v q).stay (fun d w _ y => hk d w y) (fun d y => kp d _ y) fun d zs y => kp d _ y
def tListZip2 (K : PySem.W.Frag) (ta : TA) : TE := fun σ H Q => ta σ H fun vs H1 => ∃ a b xs ys, vs = [.ref a, .ref b] ∧ SqT K H1 a xs ∧ SqT K H1 b ys ∧
  ∀ (H' : Hp) (p : Addr) (ts : List Addr), Same H1 H' → H1 p = none → (∀ t ∈ ts, H1 t = none) → H' p = some (.lst (ts.map V.ref)) → Paired (PrR H') ts (xs.zip ys) → Q (.ref p) H'
theorem pe_listZip2 {X : Cx} {e e2 : Expr} {ta : TA} {p p2 pos pos2 : Pos} (hc : X.calm = true) (hg : Gl X "list") (hm : X.mg "list" = none) (hg2 : Gl X "zip") (hm2 : X.mg "zip" = none) (ha : PA X [e, e2] ta)
    (hs2 : starEach [e, e2] X.env = (false, eval e X.env) :: starEach [e2] X.env := by rfl) (hpl : (backTo pos2 (starEach [e2] X.env)).any (·.1) = false := by rfl)
    (hs : starEach [.Call (.Name "zip" p2) [e, e2] [] pos2] X.env = (false, eval (.Call (.Name "zip" p2) [e, e2] [] pos2) X.env) :: starEach [] X.env := by rfl) :
    PE X (.Call (.Name "list" p) [.Call (.Name "zip" p2) [e, e2] [] pos2] [] pos) (tListZip2 X.K ta) := by
  refine ⟨fun pins s σ H Q I h => ?_⟩
  refine Call_ (ld_blt I hg hm boot_list (PyProof.Rows.callWith_type1 ?_ hs rfl))
  rw [hs]
  show wpAny _ _ (spliced ((false, eval (.Call (.Name "zip" p2) [e, e2] [] pos2) X.env) :: backTo pos (starEach [] X.env))) _ _ s
  refine Calls.spliced_cons ?_
  refine Call_ (ld_blt I hg2 hm2 PyProof.Rows.boot_zip (PyProof.Rows.callWith_type1 (thn (ha.run pos2 pins s σ H _ I h) fun us s1 ⟨vs, H1, I1, r1, q1⟩ => ?_) hs2 hpl))
  obtain ⟨a, b, xs, ys, ex, hqx, hqy, q⟩ := q1
  subst ex
  obtain ⟨u1, u2, eu, ra, rb⟩ := vals2 r1
  subst eu
  obtain rfl : u1 = Value.ref a := ra
  obtain rfl : u2 = Value.ref b := rb
  obtain ⟨its, rv, t1, z1⟩ := I1.tuple hqx
  obtain ⟨its2, rv2, t2, z2⟩ := I1.tuple hqy
  have ha1 : a < s1.heap.objs.size := by obtain ⟨o, ho, _⟩ := id t1; exact Heap.lt_size ho
  have hb1 : b < s1.heap.objs.size := by obtain ⟨o, ho, _⟩ := id t2; exact Heap.lt_size ho
  refine RZ.call_zipT (show s1.heap.IsTuple a its.toArray from t1) (show s1.heap.IsTuple b its2.toArray from t2) fun h' hz hti hto hi hj hsz hk => ?_
  refine Calls.spliced_nil ?_
  have lo5 : ∀ m : Nat, m < 5 → s1.heap.objs.size + m < h'.objs.size := fun m hm => by rw [hsz]; exact Nat.add_lt_add_left hm _
  refine call_list_zipT2 (s := { s1 with heap := h' }) (A := X.A) (I1.ok.hd hc) (PySem.W.ktu_apart s1.heap.objs.size a b ha1 hb1) (fun c hc' => ?_) (by have := rv.length; simp; omega) hz hti hto hi hj
    (Heap.IsTuple.at (show s1.heap.IsTuple a its.toArray from t1) fun o e => hk _ _ e) (Heap.IsTuple.at (show s1.heap.IsTuple b its2.toArray from t2) fun o e => hk _ _ e) fun g tk acc c as hk' hS hl' hG hacc => ?_
  · have e' : c = s1.heap.objs.size + 4 ∨ c = s1.heap.objs.size + 2 ∨ c = s1.heap.objs.size + 3 ∨ c = s1.heap.objs.size ∨ c = s1.heap.objs.size + 1 ∨ c = a ∨ c = b := by simpa using hc'
    rcases e' with z | z | z | z | z | z | z
    · exact z ▸ lo5 4 (by decide)
    · exact z ▸ lo5 2 (by decide)
    · exact z ▸ lo5 3 (by decide)
    · exact z ▸ lo5 0 (by decide)
    · exact z ▸ lo5 1 (by decide)
    · exact z ▸ Nat.lt_trans ha1 (lo5 0 (by decide))
    · exact z ▸ Nat.lt_trans hb1 (lo5 0 (by decide))
  · have hkk : ∀ b o, s1.heap.get? b = some o → g.get? b = some o := fun d o e =>
      have ld := Heap.lt_size e
      hk' d o (Nat.ne_of_lt (Nat.lt_add_right 4 ld)) (Nat.ne_of_lt (Nat.lt_add_right 3 ld)) (Nat.ne_of_lt ld) (Nat.ne_of_lt (Nat.lt_add_right 1 ld)) (hk d o e)
    obtain ⟨H', k1, k2, k2', k3, k4, J⟩ := pairs_laid2 (tk := tk) I1 (show s1.heap.objs.size ≤ h'.objs.size by rw [hsz]; exact Nat.le_add_right _ _) rv rv2 z1 hkk hS hl' hG hacc
    exact ⟨.ref _, H', J, rfl, q H' _ as k1 k2 k2' k3 k4⟩
end Nf

set_option Elab.async false
set_option linter.all false
set_option maxRecDepth 100000
namespace Sh
open PySem L2 Nf
section
variable {X : Cx} {Γ : Gm} {tg : Expr} {p pos : Pos}
def fR1 : D → Option (List D)
  | .int j => if -1000000 ≤ j ∧ j ≤ 1000000 then some (rngD 0 j.toNat) else none
  | _ => none
def fR2 : D → D → Option (List D)
  | .int i, .int j => if -1000000 ≤ i ∧ i ≤ 1000000 ∧ -1000000 ≤ j ∧ j ≤ 1000000 then some (rngD i (j - i).toNat) else none
  | _, _ => none
def i1 (f : D → Option (List D)) (t : Ed) : Id' := fun ρ => Mb (t ρ) fun d => Mo (f d)
def i2 (f : D → D → Option (List D)) (t u : Ed) : Id' := fun ρ => Mb (t ρ) fun d => Mb (u ρ) fun e => Mo (f d e)
theorem di_r1 {a : Expr} {t : Ed} (ha : DE X Γ a t) (hg : Gl X "range") (hm : X.mg "range" = none) (hs : starEach [a] X.env = [(false, eval a X.env)] := by rfl) (hs1 : starEach [a] X.env = (false, eval a X.env) :: starEach [] X.env := by rfl) : DI X Γ tg (.Call (.Name "range" p) [a] [] pos) (i1 fR1 t) :=
  ⟨PI.wk (pi_range1 hg hm (pa_cons ha.p pa_nil hs1) hs) fun σ H Q ⟨R, ρ, n, ds, n', rp, e, q⟩ => by
    obtain ⟨d, m, e1, e⟩ := Mb_some e
    obtain ⟨ee, rfl⟩ := Mo_some e
    refine ⟨R, ρ, n, d, _, rp, e1, fun v R1 H1 rp1 S1 z1 => ?_⟩
    cases z1 with
    | int j =>
      obtain ⟨hj, e⟩ := ite_some ee
      cases e
      exact ⟨j, rfl, by omega, by omega, q _ _ _ R1 H1 rp1 S1 ((rngD_len 0 j.toNat).symm ▸ walk_range) (fun _ _ => True.intro) (rngD_yok 0 _) (by rw [rngD_len, PySem.sizeLine_eq]; omega)⟩
    | _ => cases ee⟩
theorem di_r2 {a b : Expr} {t u : Ed} (ha : DE X Γ a t) (hb : DE X Γ b u) (hg : Gl X "range") (hm : X.mg "range" = none) (hs : starEach [a, b] X.env = [(false, eval a X.env), (false, eval b X.env)] := by rfl) (hs2 : starEach [b] X.env = [(false, eval b X.env)] := by rfl)
    (h1 : starEach [a, b] X.env = (false, eval a X.env) :: starEach [b] X.env := by rfl) (h2 : starEach [b] X.env = (false, eval b X.env) :: starEach [] X.env := by rfl) : DI X Γ tg (.Call (.Name "range" p) [a, b] [] pos) (i2 fR2 t u) :=
  ⟨PI.wk (pi_range2 hg hm (pa_cons ha.p (pa_cons hb.p pa_nil h2) h1) hs hs2) fun σ H Q ⟨R, ρ, n, ds, n', rp, e, q⟩ => by
    obtain ⟨d, m, e1, e⟩ := Mb_some e
    obtain ⟨d2, m2, e2, e⟩ := Mb_some e
    obtain ⟨ee, rfl⟩ := Mo_some e
    refine ⟨R, ρ, n, d, _, rp, e1, fun v R1 H1 rp1 S1 z1 => ⟨R1, ρ, m, d2, _, rp1, e2, fun v2 R2 H2 rp2 S2 z2 => ?_⟩⟩
    cases z1 with
    | int i => cases z2 with
      | int j =>
        obtain ⟨hj, e⟩ := ite_some ee
        cases e
        exact ⟨i, j, rfl, ⟨by omega, by omega, by omega, by omega⟩, q _ _ _ R2 H2 rp2 (S1.trans S2) ((rngD_len i (j - i).toNat).symm ▸ walk_range) (fun _ _ => True.intro) (rngD_yok i _) (by rw [rngD_len, PySem.sizeLine_eq]; omega)⟩
      | _ => cases ee
    | _ => cases ee⟩
/-! zip, enumerate -/
def prs (xs ys : List D) : List D := (xs.zip ys).map fun q => .tup [q.1, q.2]
theorem prs_len (xs ys : List D) : (prs xs ys).length = min xs.length ys.length := by unfold prs; rw [List.length_map, List.length_zip]
theorem prs_yok {c : Cn} {R : Hp} {us vs : List V} {xs ys : List D} (h1 : FzA c R us xs) (h2 : FzA c R vs ys) : YOk c R (prs xs ys) (YPair (fun i => us[i]?) fun i => vs[i]?) := fun i H x H' d hd ⟨T, u, v, hx, hT, hH, hu, hv⟩ => by
  unfold prs at hd
  rw [List.getElem?_map] at hd
  obtain ⟨q, hq, rfl⟩ := Option.map_eq_some_iff.mp hd
  rw [List.getElem?_zip_eq_some] at hq
  obtain ⟨d1, g1, z1⟩ := h1.getV hu
  obtain ⟨d2, g2, z2⟩ := h2.getV hv
  rw [hq.1] at g1; cases g1
  rw [hq.2] at g2; cases g2
  exact .inr ⟨T, [u, v], _, hx, hT, hH, rfl, by show 2 ≤ sizeLine; decide, .cons z1 (.cons z2 .nil)⟩
def fZip : D → D → Option (List D)
  | .tup xs, .tup ys => szl xs.length (prs xs ys)
  | .lst xs, .lst ys => szl xs.length (prs xs ys)
  | _, _ => none
theorem di_zip {a b : Expr} {t u : Ed} {elts : List Expr} {kk : Nat} {tpos : Pos} (ha : DE X Γ a t) (hb : DE X Γ b u) (hg : Gl X "zip") (hm : X.mg "zip" = none) (hs : starEach [a, b] X.env = [(false, eval a X.env), (false, eval b X.env)] := by rfl) (hs2 : starEach [b] X.env = [(false, eval b X.env)] := by rfl)
    (h1 : starEach [a, b] X.env = (false, eval a X.env) :: starEach [b] X.env := by rfl) (h2 : starEach [b] X.env = (false, eval b X.env) :: starEach [] X.env := by rfl) (hpl : (backTo pos (starEach [b] X.env)).any (·.1) = false := by rfl) (hK : X.K = Γ.c.K := by rfl) : DI X Γ (.Tuple elts kk tpos) (.Call (.Name "zip" p) [a, b] [] pos) (i2 fZip t u) :=
  ⟨PI.wk (RZ.pi_zipA hg hm (pa_cons ha.p (pa_cons hb.p pa_nil h2) h1) h1 hpl) fun σ H Q ⟨R, ρ, n, ds, n', rp, e, q⟩ => by
    obtain ⟨d, m, e1, e⟩ := Mb_some e
    obtain ⟨d2, m2, e2, e⟩ := Mb_some e
    obtain ⟨ee, rfl⟩ := Mo_some e
    refine ⟨R, ρ, n, d, _, rp, e1, fun v R1 H1 rp1 S1 z1 => ⟨R1, ρ, m, d2, _, rp1, e2, fun v2 R2 H2 rp2 S2 z2 => ?_⟩⟩
    cases z1 with
    | @tup a1 us xs h1 l1 f1 => cases z2 with
      | @tup a2 vs ys h2 l2 f2 =>
        obtain ⟨hz, rfl⟩ := szl_some ee
        have g1 := S2.le.sqT h1
        refine ⟨a1, a2, us, vs, rfl, .inr ⟨hK ▸ rp2.hp.same.le.sqT g1, hK ▸ rp2.hp.same.le.sqT h2, q _ (fun H => SqT X.K H a1 us ∧ SqT X.K H a2 vs) _ R2 H2 rp2 (S1.trans S2) ?_ ?_ (prs_yok (f1.mono S2.le) f2) (by rw [prs_len]; omega)⟩⟩
        · rw [prs_len, ← f1.len, ← f2.len]; exact walk_zipT (xs := us) (ys := vs) rfl
        · exact fun H3 S => ⟨hK ▸ S.le.sqT g1, hK ▸ S.le.sqT h2⟩
      | _ => cases ee
    | @lst a1 us xs h1 l1 f1 => cases z2 with
      | @lst a2 vs ys h2 l2 f2 =>
        obtain ⟨hz, rfl⟩ := szl_some ee
        have g1 := S2.same _ _ h1
        refine ⟨a1, a2, us, vs, rfl, .inl ⟨SqL.of (rp2.hp.same _ _ g1), SqL.of (rp2.hp.same _ _ h2), q _ (fun H => SqL X.K H a1 us ∧ SqL X.K H a2 vs) _ R2 H2 rp2 (S1.trans S2) ?_ ?_ (prs_yok (f1.mono S2.le) f2) (by rw [prs_len]; omega)⟩⟩
        · rw [prs_len, ← f1.len, ← f2.len]; exact walk_zip (xs := us) (ys := vs) rfl
        · exact fun H3 S => ⟨SqL.of (S _ _ g1), SqL.of (S _ _ h2)⟩
      | _ => cases ee
    | _ => cases ee⟩
def enD (k : Nat) : List D → List D
  | [] => []
  | d :: r => .tup [.int (k : Nat), d] :: enD (k + 1) r
theorem enD_len : ∀ (k : Nat) (xs : List D), (enD k xs).length = xs.length
  | _, [] => rfl
  | k, _ :: r => by unfold enD; rw [List.length_cons, List.length_cons, enD_len (k + 1) r]
theorem enD_get : ∀ (k : Nat) (xs : List D) (i : Nat), (enD k xs)[i]? = xs[i]?.map fun d => .tup [.int ((k + i : Nat)), d]
  | _, [], i => by simp [enD]
  | k, d :: r, 0 => by simp [enD]
  | k, d :: r, i + 1 => by
    unfold enD
    rw [List.getElem?_cons_succ, List.getElem?_cons_succ, enD_get (k + 1) r i, show k + 1 + i = k + (i + 1) by omega]
theorem en_yok {c : Cn} {R : Hp} {us : List V} {xs : List D} (h1 : FzA c R us xs) : YOk c R (enD 0 xs) (YPair (fun i => some (.int (i : Nat))) fun i => us[i]?) := fun i H x H' d hd ⟨T, u, v, hx, hT, hH, hu, hv⟩ => by
  rw [enD_get] at hd
  obtain ⟨d2, hq, rfl⟩ := Option.map_eq_some_iff.mp hd
  obtain ⟨d1, g1, z1⟩ := h1.getV hv
  rw [hq] at g1; cases g1
  cases hu
  exact .inr ⟨T, [.int (i : Nat), v], _, hx, hT, hH, rfl, by show 2 ≤ sizeLine; decide, .cons (by rw [Nat.zero_add]; exact .int _) (.cons z1 .nil)⟩
def fEnum : D → Option (List D)
  | .tup xs => szl xs.length (enD 0 xs)
  | .lst xs => szl xs.length (enD 0 xs)
  | _ => none
theorem di_enum {a : Expr} {t : Ed} {elts : List Expr} {kk : Nat} {tpos : Pos} (ha : DE X Γ a t) (hg : Gl X "enumerate") (hm : X.mg "enumerate" = none) (hs : starEach [a] X.env = [(false, eval a X.env)] := by rfl)
    (h1 : starEach [a] X.env = (false, eval a X.env) :: starEach [] X.env := by rfl) (hK : X.K = Γ.c.K := by rfl) : DI X Γ (.Tuple elts kk tpos) (.Call (.Name "enumerate" p) [a] [] pos) (i1 fEnum t) :=
  ⟨PI.wk (PI.or (pi_enum hg hm (pa_cons ha.p pa_nil h1) hs) (pi_enumT hg hm (pa_cons ha.p pa_nil h1) hs)) fun σ H Q ⟨R, ρ, n, ds, n', rp, e, q⟩ => by
    obtain ⟨d, m, e1, e⟩ := Mb_some e
    obtain ⟨ee, rfl⟩ := Mo_some e
    cases d with
    | lst xs =>
      obtain ⟨hz, rfl⟩ := szl_some ee
      refine .inl ⟨R, ρ, n, _, _, rp, e1, fun v R1 H1 rp1 S1 z1 => ?_⟩
      obtain ⟨a, us, rfl, ha, l, f⟩ := z1.lst_inv
      refine ⟨a, us, rfl, SqL.of (rp1.hp.same _ _ ha), q _ (fun H3 => SqL X.K H3 a us) _ R1 H1 rp1 S1 ?_ (fun H3 S => SqL.of (S _ _ ha)) (en_yok f) (by rw [enD_len]; exact hz)⟩
      rw [enD_len, ← f.len]; exact walk_enum (xs := us)
    | tup xs =>
      obtain ⟨hz, rfl⟩ := szl_some ee
      refine .inr ⟨R, ρ, n, _, _, rp, e1, fun v R1 H1 rp1 S1 z1 => ?_⟩
      obtain ⟨a, us, rfl, ha, l, f⟩ := z1.tup_inv
      refine ⟨a, us, rfl, hK ▸ rp1.hp.same.le.sqT ha, q _ _ _ R1 H1 rp1 S1 ?_ (fun H3 S => hK ▸ S.le.sqT ha) (en_yok f) (by rw [enD_len]; exact hz)⟩
      rw [enD_len, ← f.len]; exact walk_enumT (xs := us)
    | _ => cases ee⟩
/-! list(zip(..)) of tuples -/
theorem HpOk.grow {R H H' : Hp} {n : Nat} {Γ : Gm} (h : HpOk Γ R H n) (S : Same H H') (N : List Addr) (hN : ∀ a ∈ N, H a = none) : HpOk Γ (fun a => if a ∈ N then H' a else R a) H' n ∧ Go Γ R H (fun a => if a ∈ N then H' a else R a) H' := by
  have key : Same R (fun a => if a ∈ N then H' a else R a) := fun a o e => by
    by_cases m : a ∈ N
    · have := h.same a o e
      rw [hN a m] at this; cases this
    · show (if a ∈ N then H' a else R a) = some o
      rw [if_neg m]; exact e
  have new : ∀ a, (fun a => if a ∈ N then H' a else R a) a ≠ none → R a ≠ none ∨ H a = none := fun a e => by
    by_cases m : a ∈ N
    · exact .inr (hN a m)
    · exact .inl (by have : (if a ∈ N then H' a else R a) ≠ none := e; rwa [if_neg m] at this)
  refine ⟨⟨fun a o e => ?_, fun a m => ?_, h.d0, ?_, h.keep.trans (Keep.of_same S), h.r0.trans key, fun a e => ?_⟩, ⟨key, Keep.of_same S, new, fun a e => S.free e⟩⟩
  · have e' : (if a ∈ N then H' a else R a) = some o := e
    by_cases m : a ∈ N
    · rw [if_pos m] at e'; exact e'
    · rw [if_neg m] at e'; exact S _ _ (h.same _ _ e')
  · have : a ∉ N := fun z => Γ.W.there n H h.wd a m (hN a z)
    show (if a ∈ N then H' a else R a) = none
    rw [if_neg this]; exact h.dj a m
  · refine Γ.W.only n H _ h.wd fun a m => ?_
    cases e : H a with
    | none => exact absurd e (Γ.W.there n H h.wd a m)
    | some o => exact S _ _ e
  · rcases new a e with z | z
    · exact h.new a z
    · exact .inr (h.nn z)
theorem paired_mem {α β : Type} {F G : α → β → Prop} : ∀ {l₁ : List α} {l₂ : List β}, Paired F l₁ l₂ → (∀ a ∈ l₁, ∀ b, F a b → G a b) → Paired G l₁ l₂
  | _, _, .nil, _ => .nil
  | _, _, .cons r t, f => .cons (f _ (by simp) _ r) (paired_mem t fun a ha => f a (by simp [ha]))
def fLZ : D → D → Option D
  | .tup xs, .tup ys => some (.lst (prs xs ys))
  | _, _ => none
theorem fz_pairs {c : Cn} {R : Hp} : ∀ {ts : List Addr} {us vs : List V} {xs ys : List D}, Paired (PrR R) ts (us.zip vs) → FzA c R us xs → FzA c R vs ys → FzA c R (ts.map V.ref) (prs xs ys)
  | _, [], _, _, _, h, .nil, _ => by cases h; exact .nil
  | _, _ :: _, [], _, _, h, .cons _ _, .nil => by cases h; exact .nil
  | _, u :: us, v :: vs, _, _, h, .cons a b, .cons a' b' => by
    cases h with
    | cons h1 h2 => exact .cons (.tup (SqT.of h1) (by show 2 ≤ sizeLine; decide) (.cons a (.cons a' .nil))) (fz_pairs h2 b b')
theorem d_lz {a b : Expr} {t u : Ed} {p2 pos2 : Pos} (ha : DE X Γ a t) (hb : DE X Γ b u) (hg : Gl X "list") (hm : X.mg "list" = none) (hg2 : Gl X "zip") (hm2 : X.mg "zip" = none) (hc : X.calm = true := by rfl)
    (h1 : starEach [a, b] X.env = (false, eval a X.env) :: starEach [b] X.env := by rfl) (h2 : starEach [b] X.env = (false, eval b X.env) :: starEach [] X.env := by rfl) (hpl : (backTo pos2 (starEach [b] X.env)).any (·.1) = false := by rfl)
    (hs : starEach [.Call (.Name "zip" p2) [a, b] [] pos2] X.env = (false, eval (.Call (.Name "zip" p2) [a, b] [] pos2) X.env) :: starEach [] X.env := by rfl) (hK : X.K = Γ.c.K := by rfl) :
    DE X Γ (.Call (.Name "list" p) [.Call (.Name "zip" p2) [a, b] [] pos2] [] pos) (e2 fLZ t u) :=
  ⟨PE.wk (pe_listZip2 hc hg hm hg2 hm2 (pa_cons ha.p (pa_cons hb.p pa_nil h2) h1) h1 hpl hs) fun σ H Q ⟨R, ρ, n, r, n', rp, e, q⟩ => by
    obtain ⟨d, m, e1, e⟩ := Mb_some e
    obtain ⟨d2, m2, e2, e⟩ := Mb_some e
    obtain ⟨ee, rfl⟩ := Mo_some e
    refine ⟨R, ρ, n, d, _, rp, e1, fun v R1 H1 rp1 S1 z1 => ⟨R1, ρ, m, d2, _, rp1, e2, fun v2 R2 H2 rp2 S2 z2 => ?_⟩⟩
    cases z1 with
    | @tup a1 us xs h1 l1 f1 => cases z2 with
      | @tup a2 vs ys h2 l2 f2 =>
        cases ee
        have f1' := f1.mono S2.le
        refine ⟨a1, a2, us, vs, rfl, hK ▸ rp2.hp.same.le.sqT (S2.le.sqT h1), hK ▸ rp2.hp.same.le.sqT h2, fun H3 l ts S3 hl0 hts0 hl3 hpp => ?_⟩
        obtain ⟨k, g⟩ := rp2.hp.grow S3 (l :: ts) fun a ha => (List.mem_cons.mp ha).elim (fun z => z ▸ hl0) (hts0 a)
        have hl4 : (fun a => if a ∈ l :: ts then H3 a else R2 a) l = some (.lst (ts.map V.ref)) := by
          show (if l ∈ l :: ts then H3 l else R2 l) = _
          rw [if_pos (by simp)]; exact hl3
        have lt : (ts.map V.ref).length ≤ sizeLine := by
          rw [List.length_map, Paired.length hpp, List.length_zip]; omega
        refine q _ _ H3 (rp2.along g k) ((S1.trans S2).trans g) (.lst hl4 lt (fz_pairs ?_ (f1'.mono g.le) (f2.mono g.le)))
        refine paired_mem hpp fun t ht pr hp => ?_
        show (if t ∈ l :: ts then H3 t else R2 t) = _
        rw [if_pos (List.mem_cons_of_mem _ ht)]; exact hp
      | _ => cases ee
    | _ => cases ee⟩
end
end Sh

set_option Elab.async false
set_option linter.all false
set_option maxRecDepth 100000
namespace Sh
open PySem L2 Nf
/-! comprehensions -/
structure DTs (X : Cx) (Γ : Gm) (es : List Expr) (t : Td) : Prop where
  p : PTs X es (upT Γ t)
def tY : Td := fun _ => Mp true
section
variable {X : Cx} {Γ : Gm}
theorem dts_nil : DTs X Γ [] tY := ⟨⟨fun pins s σ H Q I ⟨R, ρ, n, r, n', rp, e, q⟩ => by
  cases e
  exact pts_nil.run pins s σ H Q I (q R H rp (Go.refl _ _ _))⟩⟩
theorem dts_one {e : Expr} {t : Td} (h : DT X Γ e t) : DTs X Γ [e] t := ⟨pts_one h.p⟩
def lcM (g : Gd) (tt : Td) (te : Ed) (ρ : Sd) : List D → M (List D)
  | [] => Mp []
  | d :: r => Mb (Mo (g d ρ)) fun ρ1 => Mb (tt ρ1) fun b => if b = true then Mb (te ρ1) fun y => Mb (lcM g tt te ρ r) fun ys => Mp (y :: ys) else lcM g tt te ρ r
def eLc (ti : Id') (g : Gd) (tt : Td) (te : Ed) (vs : List Nat) : Ed := fun ρ => Mb (ti ρ) fun ds => Mb (lcM g tt te (wipeD ρ vs) ds) fun rs => Mp (.lst rs)
/-- a yielded item is data -/
theorem yok_step {R R1 H : Hp} {σ : L2.St} {ρ : Sd} {n i : Nat} {ds : List D} {Y : Nat → Hp → V → Hp → Prop} {x : V} {H' : Hp} {d : D} (rp : Rp Γ R H σ ρ n) (hY : YOk Γ.c R1 ds Y) (S : Same R1 R) (hd : ds[i]? = some d) (y : Y i H x H') :
    ∃ R', Rp Γ R' H' σ ρ n ∧ Go Γ R H R' H' ∧ Fz Γ.c R' x d := by
  rcases hY i H x H' d hd y with ⟨rfl, z⟩ | ⟨T, vs, es, rfl, hT, rfl, rfl, l, f⟩
  · exact ⟨R, rp, Go.refl _ _ _, z.mono S.le⟩
  · exact ⟨_, rp.lay hT, rp.go hT, .tup (SqT.of upd_same) l ((f.mono S.le).mono (rp.go hT).le)⟩
theorem Go.stay {R H R' H' : Hp} {p : Addr} {o : HO} (g : Go Γ R H R' H') (hp : H p = some o) (hd : p ∉ Γ.W.dom) (hR : R p = none) : H' p = some o ∧ R' p = none := by
  refine ⟨g.keep p o hp hd, ?_⟩
  cases q : R' p with
  | none => rfl
  | some z =>
    rcases g.new p (by rw [q]; exact fun z => nomatch z) with z | z
    · exact absurd hR z
    · rw [hp] at z; cases z
set_option maxHeartbeats 1000000 in
/-- the reading of a comprehension: the list is new, unfrozen -/
theorem lc_up {ti : Id'} {g : Gd} {tt : Td} {te : Ed} {vs : List Nat} {σ : L2.St} {H : Hp} {Q : VK} {R : Hp} {ρ : Sd} {n : Nat} {r : D} {n' : Nat} (rp : Rp Γ R H σ ρ n) (e : eLc ti g tt te vs ρ n = some (r, n'))
    (q : ∀ (Z : Addr) (us : List V) (R' H' : Hp), Rp Γ R' H' σ ρ n' → Go Γ R H R' H' → H Z = none → NoO Γ σ ρ Z → Γ.H0 Z = none → H' Z = some (.lst us) → R' Z = none → us.length ≤ sizeLine → (∃ rs, r = .lst rs ∧ FzA Γ.c R' us rs) → Q (.ref Z) H') :
    tLc (upI Γ ti) (upG Γ vs g) (upT Γ tt) (up Γ te) vs σ H Q := by
  obtain ⟨ds, m, e1, e⟩ := Mb_some e
  obtain ⟨rs, m2, e2, e⟩ := Mb_some e
  cases e
  · refine ⟨R, ρ, n, ds, m, rp, e1, fun J G Y R1 H1 rp1 S1 W hG hY hzz Z hZ => ?_⟩
    have hR1 : R1 Z = none := rp1.hp.same.free hZ
    have h0 : Γ.H0 Z = none := rp1.hp.nn hZ
    have hdm : Z ∉ Γ.W.dom := fun z => rp1.hp.d0 Z z h0
    have hnO := rp1.noO hZ
    have hHZ : H Z = none := S1.nn Z hZ
    refine lc_it W (fun i H2 => ∃ R2 n2 us as bs, Rp Γ R2 H2 σ ρ n2 ∧ Go Γ R H R2 H2 ∧ Same R1 R2 ∧ H2 Z = some (.lst us) ∧ R2 Z = none ∧ FzA Γ.c R2 us as ∧ lcM g tt te (wipeD ρ vs) (ds.drop i) n2 = some (bs, n') ∧ rs = as ++ bs ∧ as.length ≤ i) ?_ ?_ ?_ ?_
    · exact ⟨R1, m, [], [], rs, rp1.lay0 hZ, S1.lay0 hZ, Same.refl _, upd_same, hR1, .nil, by rw [List.drop_zero]; exact e2, rfl, Nat.le_refl _⟩
    · rintro i H2 _ ⟨R2, n2, us, as, bs, rp2, _, S2, _⟩
      exact hG H2 (S2.trans rp2.hp.same)
    · rintro i x H2 H3 hi ⟨R2, n2, us, as, bs, rp2, g2, S2, hZ2, hRZ2, f2, e3, er, hl⟩ hy
      have hd : ds[i]? = some ds[i] := List.getElem?_eq_getElem hi
      rw [List.drop_eq_getElem_cons hi] at e3
      obtain ⟨R3, rp3, g3, z3⟩ := yok_step rp2 hY S2 hd hy
      obtain ⟨hZ3, hRZ3⟩ := g3.stay hZ2 hdm hRZ2
      obtain ⟨ρ1, n3, e4, e5⟩ := Mb_some e3
      obtain ⟨e4', rfl⟩ := Mo_some e4
      obtain ⟨b, n4, e6, e7⟩ := Mb_some e5
      refine ⟨R3, wipeD ρ vs, n3, ds[i], ρ1, rp3.wipe vs, z3, e4', fun σ1 hl1 ha1 rp1' => ⟨?_, R3, ρ1, n3, b, n4, rp1', e6, fun R4 H4 rp4 g4 => ?_⟩⟩
      · refine wipe_eq (by rw [hl1, wipe_length]) fun j hj => ?_
        rw [ha1 j hj, wipe_out hj]
      · obtain ⟨hZ4, hRZ4⟩ := g4.stay hZ3 hdm hRZ3
        cases b with
        | true =>
          obtain ⟨y, n5, e8, e9⟩ := Mb_some e7
          obtain ⟨ys, n6, e10, e11⟩ := Mb_some e9
          cases e11
          refine iteT ⟨R4, ρ1, n4, y, n5, rp4, e8, fun v R5 H5 rp5 g5 z5 => ?_⟩
          obtain ⟨hZ5, hRZ5⟩ := g5.stay hZ4 hdm hRZ4
          have f5 := ((f2.mono g3.le).mono g4.le).mono g5.le
          have lus : us.length ≤ i := by rw [f2.len]; exact hl
          have g25 := (g3.trans g4).trans g5
          refine ⟨us, hZ5, by omega, R5, n5, us ++ [v], as ++ [y], ys, ?_, (g2.trans g25).mutN hHZ, S2.trans g25.same, upd_same, hRZ5, f5.app (.cons z5 .nil), e10, ?_, ?_⟩
          · exact (rp2.along g25 rp5.hp).mutO hRZ5 h0 hnO
          · rw [er, List.append_assoc]; rfl
          · rw [List.length_append, List.length_singleton]; omega
        | false =>
          have g24 := g3.trans g4
          exact iteF ⟨R4, n4, us, as, bs, rp2.along g24 rp4.hp, g2.trans g24, S2.trans g24.same, hZ4, hRZ4, (f2.mono g3.le).mono g4.le, e7, er, by omega⟩
    · rintro H2 ⟨R2, n2, us, as, bs, rp2, g2, S2, hZ2, hRZ2, f2, e3, er, hl⟩
      rw [List.drop_length] at e3
      cases e3
      rw [List.append_nil] at er
      subst er
      exact q Z us R2 H2 rp2 g2 hHZ hnO h0 hZ2 hRZ2 (by rw [f2.len]; omega) ⟨_, rfl, f2⟩
theorem d_lc {elt tg iter : Expr} {ifs : List Expr} {scope : Scope} {own : List (Str × Nat)} {vs : List Nat} {pos : Pos} {ti : Id'} {g : Gd} {tt : Td} {te : Ed} (hN : X.N.Nodup) (hi : DI X Γ tg iter ti) (ok : BlkOk X.N X.env.scope scope own)
    (hg : ∀ (s : Shared) (H : Hp) (C : Addr) (cl : List (Str × Addr)) (fp : List Addr), DG (X.blk s H scope (compEnvC scope cl C X.env) fp) Γ tg vs g) (ht : ∀ (s : Shared) (H : Hp) (C : Addr) (cl : List (Str × Addr)) (fp : List Addr), DTs (X.blk s H scope (compEnvC scope cl C X.env) fp) Γ ifs tt)
    (he : ∀ (s : Shared) (H : Hp) (C : Addr) (cl : List (Str × Addr)) (fp : List Addr), DE (X.blk s H scope (compEnvC scope cl C X.env) fp) Γ elt te) (hvs : own.map (·.2) = vs := by rfl) (hc : X.calm = true := by rfl) (hs : ∀ x, foldedSetIterable iter X.env x = pure x := by intro _; rfl) :
    DE X Γ (.ListComp elt [⟨tg, iter, ifs, 0⟩] scope pos) (eLc ti g tt te vs) :=
  ⟨PE.wk (pe_lc hc hN hi.p ok (fun s H C cl fp => (hg s H C cl fp).p) (fun s H C cl fp => (ht s H C cl fp).p) (fun s H C cl fp => (he s H C cl fp).p) hs) fun σ H Q ⟨R, ρ, n, r, n', rp, e, q⟩ => by
    rw [hvs]
    refine lc_up rp e fun Z us R' H' rp' g' hZ hnO h0 hZ' hR' hl ⟨rs, er, f⟩ => ?_
    subst er
    exact q _ _ H' (rp'.freeze hZ' hR' h0 hnO) (g'.freeze hZ hR') (.lst upd_same hl (f.mono (same_new hR' _).le))⟩
/-! fresh, unfrozen objects -/
def upO (Γ : Gm) (t : Ed) : TE := fun σ H Q => ∃ R ρ n r n', Rp Γ R H σ ρ n ∧ t ρ n = some (r, n') ∧ ∀ a o R' H', Rp Γ R' H' σ ρ n' → Go Γ R H R' H' → H a = none → H' a = some o → R' a = none → Γ.H0 a = none → NoO Γ σ ρ a → FzO Γ.c R' o r → Q (.ref a) H'
structure DO (X : Cx) (Γ : Gm) (e : Expr) (t : Ed) : Prop where
  p : PE X e (upO Γ t)
theorem d_of {e : Expr} {t : Ed} (h : DO X Γ e t) : DE X Γ e t := ⟨PE.wk h.p fun σ H Q ⟨R, ρ, n, r, n', rp, e, q⟩ => ⟨R, ρ, n, r, n', rp, e, fun a o R' H' rp' g' ha ha' hR h0 hn f =>
  q _ _ H' (rp'.freeze ha' hR h0 hn) (g'.freeze ha hR) ((f.mono (same_new hR o).le).fz upd_same)⟩⟩
theorem do_lst {es : List Expr} {t : Ad} {pos : Pos} {k : Nat} (h : DA X Γ es t) (hl : ∀ ρ n r n', t ρ n = some (r, n') → r.length = k) (hk : k ≤ sizeLine := by decide) : DO X Γ (.List es pos) (eLst t) := ⟨PE.wk (pe_lst h.p) fun σ H Q ⟨R, ρ, n, r, n', rp, e, q⟩ => by
  obtain ⟨ds, m, e1, e⟩ := Mb_some e
  cases e
  refine ⟨R, ρ, n, ds, _, rp, e1, fun vs R1 H1 rp1 S1 z1 => ?_⟩
  have hz : vs.length ≤ sizeLine := by rw [z1.len, hl _ _ _ _ e1]; exact hk
  exact ⟨hz, fun p hp => q p _ R1 _ (rp1.lay0 hp) (S1.lay0 hp) (S1.nn p hp) upd_same (rp1.hp.same.free hp) (rp1.hp.nn hp) (rp1.noO hp) (.lst hz z1)⟩⟩
theorem do_lc {elt tg iter : Expr} {ifs : List Expr} {scope : Scope} {own : List (Str × Nat)} {vs : List Nat} {pos : Pos} {ti : Id'} {g : Gd} {tt : Td} {te : Ed} (hN : X.N.Nodup) (hi : DI X Γ tg iter ti) (ok : BlkOk X.N X.env.scope scope own)
    (hg : ∀ (s : Shared) (H : Hp) (C : Addr) (cl : List (Str × Addr)) (fp : List Addr), DG (X.blk s H scope (compEnvC scope cl C X.env) fp) Γ tg vs g) (ht : ∀ (s : Shared) (H : Hp) (C : Addr) (cl : List (Str × Addr)) (fp : List Addr), DTs (X.blk s H scope (compEnvC scope cl C X.env) fp) Γ ifs tt)
    (he : ∀ (s : Shared) (H : Hp) (C : Addr) (cl : List (Str × Addr)) (fp : List Addr), DE (X.blk s H scope (compEnvC scope cl C X.env) fp) Γ elt te) (hvs : own.map (·.2) = vs := by rfl) (hc : X.calm = true := by rfl) (hs : ∀ x, foldedSetIterable iter X.env x = pure x := by intro _; rfl) :
    DO X Γ (.ListComp elt [⟨tg, iter, ifs, 0⟩] scope pos) (eLc ti g tt te vs) :=
  ⟨PE.wk (pe_lc hc hN hi.p ok (fun s H C cl fp => (hg s H C cl fp).p) (fun s H C cl fp => (ht s H C cl fp).p) (fun s H C cl fp => (he s H C cl fp).p) hs) fun σ H Q ⟨R, ρ, n, r, n', rp, e, q⟩ => by
    rw [hvs]
    refine lc_up rp e fun Z us R' H' rp' g' hZ hnO h0 hZ' hR' hl ⟨rs, er, f⟩ => ?_
    subst er
    exact q _ _ R' H' rp' g' hZ hZ' hR' h0 hnO (.lst hl f)⟩
end
/-! owned slots opened -/
mutual
def D.flat : D → Bool
  | .non => true
  | .bl _ => true
  | .int _ => true
  | .str _ => true
  | .deck => true
  | .tup ds => D.flatA ds
  | _ => false
def D.flatA : List D → Bool
  | [] => true
  | d :: r => D.flat d && D.flatA r
end
abbrev Gm.o (Γ : Gm) : Gm := { Γ with ow := [] }
mutual
theorem Fz.hide {c : Cn} {R R' : Hp} (h : ∀ a xs, Rd R a (.tup xs) → Rd R' a (.tup xs)) : ∀ {v : V} {d : D}, Fz c R v d → d.flat = true → Fz c R' v d
  | _, _, .non, _ => .non
  | _, _, .bl b, _ => .bl b
  | _, _, .int i, _ => .int i
  | _, _, .str x z, _ => .str x z
  | _, .tup ds, .tup q z f, e => .tup (q.imp (h _ _) id) z (FzA.hide h f (by simpa [D.flat] using e))
  | _, _, .lst _ _ _, e => by simp [D.flat] at e
  | _, _, .dk _ _ _, e => by simp [D.flat] at e
  | _, _, .ins _ _, e => by simp [D.flat] at e
  | _, _, .deck, _ => .deck
theorem FzA.hide {c : Cn} {R R' : Hp} (h : ∀ a xs, Rd R a (.tup xs) → Rd R' a (.tup xs)) : ∀ {v : List V} {d : List D}, FzA c R v d → D.flatA d = true → FzA c R' v d
  | _, _, .nil, _ => .nil
  | _, d :: r, .cons a b, e => by
    simp only [D.flatA, Bool.and_eq_true] at e
    exact .cons (Fz.hide h a e.1) (FzA.hide h b e.2)
end
section
variable {Γ : Gm} {R R' H H' : Hp} {σ : L2.St} {ρ : Sd} {n n' : Nat}
theorem HpOk.o (h : HpOk Γ R H n) : HpOk Γ.o R H n := ⟨h.same, h.dj, h.d0, h.wd, h.keep, h.r0, h.new⟩
theorem HpOk.c (h : HpOk Γ.o R H n) : HpOk Γ R H n := ⟨h.same, h.dj, h.d0, h.wd, h.keep, h.r0, h.new⟩
def Owd (Γ : Gm) (σ : L2.St) (ρ : Sd) (a : Addr) : Prop := ∃ i d, i ∈ Γ.ow ∧ ρ[i]? = some (some d) ∧ σ[i]? = some (some (.ref a))
open Classical in
noncomputable def opn (Γ : Gm) (σ : L2.St) (ρ : Sd) (R H : Hp) : Hp := fun a => if Owd Γ σ ρ a then H a else R a
open Classical in
noncomputable def cls (Γ : Gm) (σ : L2.St) (ρ : Sd) (R : Hp) : Hp := fun a => if Owd Γ σ ρ a then none else R a
theorem opn_in {a : Addr} (h : Owd Γ σ ρ a) : opn Γ σ ρ R H a = H a := if_pos h
theorem opn_out {a : Addr} (h : ¬ Owd Γ σ ρ a) : opn Γ σ ρ R H a = R a := if_neg h
theorem cls_in {a : Addr} (h : Owd Γ σ ρ a) : cls Γ σ ρ R a = none := if_pos h
theorem cls_out {a : Addr} (h : ¬ Owd Γ σ ρ a) : cls Γ σ ρ R a = R a := if_neg h
theorem Rp.owd (h : Rp Γ R H σ ρ n) {a : Addr} (q : Owd Γ σ ρ a) : ∃ o d, H a = some o ∧ R a = none ∧ Γ.H0 a = none ∧ FzO Γ.c R o d := by
  obtain ⟨i, d, hi, hd, hs⟩ := q
  obtain ⟨b, o, h1, h2, h3, h4, h5⟩ := h.own i d hi hd
  rw [hs] at h1; cases h1
  exact ⟨o, d, h2, h3, h4, h5⟩
theorem Rp.opnS (h : Rp Γ R H σ ρ n) : Same R (opn Γ σ ρ R H) := fun a o e => by
  by_cases q : Owd Γ σ ρ a
  · obtain ⟨_, _, _, h3, _⟩ := h.owd q
    rw [h3] at e; cases e
  · rw [opn_out q]; exact e
theorem Rp.opn (h : Rp Γ R H σ ρ n) : Rp Γ.o (Sh.opn Γ σ ρ R H) H σ ρ n := by
  have S := h.opnS
  refine ⟨h.len, fun i d _ e => ?_, fun i d hi _ => absurd hi (by simp), fun i j a d1 d2 hi => absurd hi (by simp), ⟨fun a o e => ?_, fun a m => ?_, h.hp.d0, h.hp.wd, h.hp.keep, h.hp.r0.trans S, fun a e => ?_⟩⟩
  · by_cases hi : i ∈ Γ.ow
    · obtain ⟨a, o, h1, h2, h3, h4, h5⟩ := h.own i d hi e
      refine ⟨_, h1, (h5.mono S.le).fz ?_⟩
      rw [opn_in ⟨i, d, hi, e, h1⟩]; exact h2
    · obtain ⟨v, h1, h2⟩ := h.fz i d hi e
      exact ⟨v, h1, h2.mono S.le⟩
  · by_cases q : Owd Γ σ ρ a
    · rw [opn_in q] at e; exact e
    · rw [opn_out q] at e; exact h.hp.same _ _ e
  · have q : ¬ Owd Γ σ ρ a := fun q => by
      obtain ⟨_, _, _, _, h4, _⟩ := h.owd q
      exact h.hp.d0 a m h4
    rw [opn_out q]; exact h.hp.dj a m
  · by_cases q : Owd Γ σ ρ a
    · obtain ⟨_, _, _, _, h4, _⟩ := h.owd q
      exact .inr h4
    · rw [opn_out q] at e; exact h.hp.new a e
/-- behind an expression over opened slots -/
theorem Rp.close (h : Rp Γ R H σ ρ n) (k : HpOk Γ.o R' H' n') (g : Go Γ.o (Sh.opn Γ σ ρ R H) H R' H') :
    Rp Γ (Sh.cls Γ σ ρ R') H' σ ρ n' ∧ Go Γ R H (Sh.cls Γ σ ρ R') H' ∧ ∀ v r, Fz Γ.c R' v r → r.flat = true → Fz Γ.c (Sh.cls Γ σ ρ R') v r := by
  have ow : ∀ a, Owd Γ σ ρ a → ∃ o d, R' a = some o ∧ H' a = some o ∧ Γ.H0 a = none ∧ FzO Γ.c R o d := fun a q => by
    obtain ⟨o, d, h2, h3, h4, h5⟩ := h.owd q
    have e1 : R' a = some o := g.same a o (by rw [opn_in q]; exact h2)
    exact ⟨o, d, e1, k.same _ _ e1, h4, h5⟩
  have S : Same R (Sh.cls Γ σ ρ R') := fun a o e => by
    by_cases q : Owd Γ σ ρ a
    · obtain ⟨_, _, _, h3, _⟩ := h.owd q
      rw [h3] at e; cases e
    · rw [cls_out q]; exact g.same a o (by rw [opn_out q]; exact e)
  have nw : ∀ a, Sh.cls Γ σ ρ R' a ≠ none → R a ≠ none ∨ H a = none := fun a e => by
    by_cases q : Owd Γ σ ρ a
    · exact absurd (cls_in q) e
    · rw [cls_out q] at e
      rcases g.new a e with z | z
      · rw [opn_out q] at z; exact .inl z
      · exact .inr z
  refine ⟨⟨h.len, fun i d hi e => ?_, fun i d hi e => ?_, h.dist, ⟨fun a o e => ?_, fun a m => ?_, h.hp.d0, k.wd, k.keep, h.hp.r0.trans S, fun a e => ?_⟩⟩, ⟨S, g.keep, nw, g.nn⟩, fun v r z fl => Fz.hide (fun a xs q => ?_) z fl⟩
  · obtain ⟨v, h1, h2⟩ := h.fz i d hi e
    exact ⟨v, h1, h2.mono S.le⟩
  · obtain ⟨a, o, h1, h2, h3, h4, h5⟩ := h.own i d hi e
    have q : Owd Γ σ ρ a := ⟨i, d, hi, e, h1⟩
    have e1 : R' a = some o := g.same a o (by rw [opn_in q]; exact h2)
    exact ⟨a, o, h1, k.same _ _ e1, cls_in q, h4, h5.mono S.le⟩
  · by_cases q : Owd Γ σ ρ a
    · rw [cls_in q] at e; cases e
    · rw [cls_out q] at e; exact k.same _ _ e
  · by_cases q : Owd Γ σ ρ a
    · exact cls_in q
    · rw [cls_out q]; exact k.dj a m
  · rcases nw a e with z | z
    · exact h.hp.new a z
    · exact .inr (h.hp.nn z)
  · have nq : ¬ Owd Γ σ ρ a := fun z => by
      obtain ⟨o, d, e1, _, _, f⟩ := ow a z
      rcases q with q | ⟨o', q⟩
      · rw [e1] at q; cases q; cases f
      · rw [e1] at q; cases q; cases f
    rcases q with q | ⟨o', q⟩
    · exact .inl (by rw [cls_out nq]; exact q)
    · exact .inr ⟨o', by rw [cls_out nq]; exact q⟩
variable {X : Cx} {e : Expr}
def eFl (t : Ed) : Ed := fun ρ => Mb (t ρ) fun d => Mo (if d.flat = true then some d else none)
theorem d_open {t : Ed} (h : DE X Γ.o e t) : DE X Γ e (eFl t) := ⟨PE.wk h.p fun σ H Q ⟨R, ρ, n, r, n', rp, e, q⟩ => by
  obtain ⟨d, m, e1, e⟩ := Mb_some e
  obtain ⟨ee, rfl⟩ := Mo_some e
  obtain ⟨fl, ee⟩ := ite_some ee
  cases ee
  refine ⟨_, ρ, n, r, _, rp.opn, e1, fun v R1 H1 rp1 g1 z1 => ?_⟩
  obtain ⟨rp2, g2, hh⟩ := rp.close rp1.hp g1
  exact q v _ H1 rp2 g2 (hh v r z1 fl)⟩
theorem dt_open {t : Td} (h : DT X Γ.o e t) : DT X Γ e t := ⟨PT.wk h.p fun σ H Q ⟨R, ρ, n, r, n', rp, e, q⟩ => by
  refine ⟨_, ρ, n, r, _, rp.opn, e, fun R1 H1 rp1 g1 => ?_⟩
  obtain ⟨rp2, g2, _⟩ := rp.close rp1.hp g1
  exact q _ H1 rp2 g2⟩
end
/-! calls of defs -/
def spM (c : Cn) (W : Wd) (f : List D → M D) : Sp := fun vs H Q _ => ∃ R ds r n n', FzA c R vs ds ∧ HpOk ⟨c, W, [], H, R⟩ R H n ∧ f ds n = some (r, n') ∧ ∀ v R' H', HpOk ⟨c, W, [], H, R⟩ R' H' n' → Fz c R' v r → Q v H'
def eCall (f : List D → M D) (t : Ad) : Ed := fun ρ => Mb (t ρ) f
section
variable {X : Cx} {Γ : Gm} {k : Nat} {fa : Addr} {fd : FuncData} {ps : List Str} {f : List D → M D} {x : Str} {p pos : Pos} {e : Expr} {es : List Expr} {t : Ad}
theorem call_up {σ : L2.St} {H : Hp} {Q : VK} {E : XK} (h : up Γ (eCall f t) σ H Q) : upA Γ t σ H fun vs H1 => spM Γ.c Γ.W f (vs ++ []) H1 Q E := by
  obtain ⟨R, ρ, n, r, n', rp, e, q⟩ := h
  obtain ⟨ds, m, e1, e⟩ := Mb_some e
  refine ⟨R, ρ, n, ds, m, rp, e1, fun vs R1 H1 rp1 g1 z1 => ?_⟩
  show spM Γ.c Γ.W f (vs ++ []) H1 Q E
  rw [List.append_nil]
  exact ⟨R1, ds, r, m, n', z1, rp1.hp.enter, e, fun v R2 H2 k z => q v R2 H2 (rp1.then k) (g1.trans (HpOk.go k)) z⟩
theorem d_call (F : FnOk X.prog X.w X.K X.mg X.base CX0 k fa fd ps (spM Γ.c Γ.W f)) (hr : Room k X.A) (hg : Gl X x) (hm : X.mg x = some (.ref fa)) (hk : PySem.W.keepIn X.K (.ref fa) = true) (hb : Binds X.K fd ps []) (ha : DA X Γ (e :: es) t)
    (he : starEach (e :: es) X.env = (false, eval e X.env) :: starEach es X.env := by rfl) (hpl : (backTo pos (starEach es X.env)).any (·.1) = false := by rfl) (hdb : (x == ("__debug__" : Str)) = false := by decide) : DE X Γ (.Call (.Name x p) (e :: es) [] pos) (eCall f t) :=
  ⟨PE.wk (pe_call F hr hg hm hk hb .nil pass0 ha.p hdb he hpl) fun σ H Q h => call_up h⟩
end
end Sh

set_option Elab.async false
set_option linter.all false
set_option maxRecDepth 100000
namespace Sh
open PySem PySem.Spec PyProof.Rows L2
theorem ext_tup {l b : Addr} {ys zs : Array Value} {n m : Nat} {dd : Option Addr} {sl : Array (Option Value)} (h0 : ¬(!ys.isEmpty && Builtin.List.listTooLong (ys.size + zs.size)) = true) (h1 : ys.size ≤ sizeLine) (h2 : ys.size + zs.size ≤ sizeLine + 1) :
    Meets (Builtin.«list.extend» ⟨[.ref l, .ref b], []⟩) (fun _ R s => s.heap.get? l = some { cls := .type "list", data := .seq ys n } ∧
      s.heap.get? b = some { cls := .type "tuple", dict := dd, data := .seq zs m, slots := sl } ∧ R (.ok (.ret Value.none)) { s with heap := s.heap.update l (Obj.mapSeq fun x => x ++ zs), toks := s.toks }) :=
  .of_wp fun prog w A R s h => by
    obtain ⟨hp, g, d, tk, os⟩ := s
    obtain ⟨hl, hb, h⟩ := h
    have g1 := F.sub_tuple_list
    have g2 := F.sub_tuple_tuple
    have g3 := F.sub_list_list
    have hz' : (ys ++ zs).size ≤ sizeLine + 1 := by rw [Array.size_append]; exact h2
    wp_walk using (wpAny_updateSeq hl rfl (hz := h1) (_hz' := hz')), wpAny_loadPart' hl, wpAny_loadPart' hb
    exact ⟨_, rfl, h⟩
def rExtT (K : PySem.W.Frag) : V → List V → Hp → VK → Prop := fun x vs H Q => ∃ l b xs zs, x = .ref l ∧ vs = [.ref b] ∧ H l = some (.lst xs) ∧ SqT K H b zs ∧ xs.length + zs.length ≤ sizeLine ∧ Q .non (upd H l (.lst (xs ++ zs)))
theorem mt_extT {X : Cx} : MtM X "list.extend" (rExtT X.K) := by
  intro pins s σ H x vs v us Q I rx rv h
  obtain ⟨l, b, xs, zs, rfl, rfl, hH, hB, hz, q⟩ := h
  cases rx
  obtain ⟨u, rfl, ru⟩ := rv.one
  cases ru
  obtain ⟨z, its, n, r, hl, e⟩ := I.lstM hH
  obtain ⟨its2, r2, p2, hz2⟩ := I.tuple hB
  obtain ⟨⟨cls, dd, data, sl⟩, e2, hc, m, hd⟩ := p2
  simp only at hc hd
  subst hc hd
  have hs : its.toArray.size + its2.toArray.size ≤ sizeLine := by rw [List.size_toArray, List.size_toArray, ← hl, ← r2.length]; exact hz
  have long : ¬ (!its.toArray.isEmpty && Builtin.List.listTooLong (its.toArray.size + its2.toArray.size)) = true := by
    rw [notLongL hs, Bool.and_false]
    decide
  refine call_meets F.slot_list_extend ⟨_, e, rfl⟩ F.entry_list_extend (F.args_list_extend_2 _ _) (ext_tup long (by rw [List.size_toArray]; omega) (by omega)) ⟨e, e2, ?_⟩
  exact ⟨.non, _, I.lset (its' := its ++ its2) hH e (by simp) (r.append r2) (by rw [List.length_append]; exact hz), rfl, q⟩
end Sh
namespace Sh
open PySem L2 Nf
/-! statements -/
inductive Fl where
  | next (ρ : Sd) | ret (d : D) | brk (ρ : Sd) | cont (ρ : Sd)
abbrev Bd := Sd → M Fl
def Kx (Γ : Gm) (E : Ends) (R : Hp) (n' : Nat) : Fl → Prop
  | .next ρ' => ∀ R' H' σ', Rp Γ R' H' σ' ρ' n' → Same R R' → E.nx σ' H'
  | .ret d => ∀ v R' H', HpOk Γ R' H' n' → Fz Γ.c R' v d → E.rt v H'
  | .brk ρ' => ∀ R' H' σ', Rp Γ R' H' σ' ρ' n' → Same R R' → E.bk σ' H'
  | .cont ρ' => ∀ R' H' σ', Rp Γ R' H' σ' ρ' n' → Same R R' → E.ct σ' H'
theorem Kx.mono {Γ : Gm} {E : Ends} {R R1 : Hp} {n' : Nat} {fl : Fl} (h : Kx Γ E R n' fl) (S : Same R R1) : Kx Γ E R1 n' fl := by
  cases fl with
  | next ρ' => exact fun R' H' σ' rp S' => h R' H' σ' rp (S.trans S')
  | ret d => exact h
  | brk ρ' => exact fun R' H' σ' rp S' => h R' H' σ' rp (S.trans S')
  | cont ρ' => exact fun R' H' σ' rp S' => h R' H' σ' rp (S.trans S')
def upS (Γ : Gm) (t : Bd) : TS := fun E σ H => ∃ R ρ n fl n', Rp Γ R H σ ρ n ∧ t ρ n = some (fl, n') ∧ Kx Γ E R n' fl
structure DS (X : Cx) (Γ : Gm) (s : Stmt) (t : Bd) : Prop where
  p : PS X s (upS Γ t)
structure DB (X : Cx) (Γ : Gm) (s : List Stmt) (t : Bd) : Prop where
  p : PSs X s (upS Γ t)
section
variable {X : Cx} {Γ : Gm} {st : Stmt} {rest : List Stmt} {t u : Bd} {pos : Pos}
def bNil : Bd := fun ρ => Mp (.next ρ)
def bSeq (t u : Bd) : Bd := fun ρ => Mb (t ρ) fun fl => match fl with
  | .next ρ' => u ρ'
  | o => Mp o
theorem db_nil : DB X Γ [] bNil := ⟨PSs.wk pss_nil fun E σ H ⟨R, ρ, n, fl, n', rp, e, q⟩ => by
  cases e; exact q R H σ rp (Same.refl _)⟩
theorem db_cons (h1 : DS X Γ st t) (h2 : DB X Γ rest u) : DB X Γ (st :: rest) (bSeq t u) := ⟨PSs.wk (pss_cons h1.p h2.p) fun E σ H ⟨R, ρ, n, fl, n', rp, e, q⟩ => by
  obtain ⟨f1, m, e1, e⟩ := Mb_some e
  refine ⟨R, ρ, n, f1, m, rp, e1, ?_⟩
  cases f1 with
  | next ρ1 => exact fun R' H' σ' rp' S => ⟨R', ρ1, m, fl, n', rp', e, q.mono S⟩
  | ret d => cases e; exact q
  | brk ρ' => cases e; exact q
  | cont ρ' => cases e; exact q⟩
theorem db_one (h1 : DS X Γ st t) : DB X Γ [st] t := ⟨pss_one h1.p⟩
theorem ds_pass : DS X Γ (.Pass pos) bNil := ⟨PS.wk ps_pass fun E σ H ⟨R, ρ, n, fl, n', rp, e, q⟩ => by
  cases e; exact q R H σ rp (Same.refl _)⟩
theorem ds_cont : DS X Γ (.Continue pos) (fun ρ => Mp (.cont ρ)) := ⟨PS.wk ps_continue fun E σ H ⟨R, ρ, n, fl, n', rp, e, q⟩ => by
  cases e; exact q R H σ rp (Same.refl _)⟩
theorem ds_brk : DS X Γ (.Break pos) (fun ρ => Mp (.brk ρ)) := ⟨PS.wk ps_break fun E σ H ⟨R, ρ, n, fl, n', rp, e, q⟩ => by
  cases e; exact q R H σ rp (Same.refl _)⟩
def sRet (t : Ed) : Bd := fun ρ => Mb (t ρ) fun d => Mp (.ret d)
theorem ds_ret {e : Expr} {t : Ed} (h : DE X Γ.o e t) : DS X Γ (.Return (some e) pos) (sRet t) := ⟨PS.wk (ps_ret h.p) fun E σ H ⟨R, ρ, n, fl, n', rp, e, q⟩ => by
  obtain ⟨d, m, e1, e⟩ := Mb_some e
  cases e
  exact ⟨_, ρ, n, d, _, rp.opn, e1, fun v R1 H1 rp1 g1 z1 => q v R1 H1 rp1.hp.c z1⟩⟩
theorem ds_retN : DS X Γ (.Return none pos) (fun ρ => Mp (.ret .non)) := ⟨PS.wk ps_retN fun E σ H ⟨R, ρ, n, fl, n', rp, e, q⟩ => by
  cases e; exact q .non R H rp.hp .non⟩
def sSet (i : Nat) (t : Ed) : Bd := fun ρ => Mb (t ρ) fun d => Mp (.next (ρ.set i (some d)))
theorem ds_set {i : Nat} {x : Str} {e : Expr} {t : Ed} {pos' : Pos} (hN : X.N.Nodup) (hi : X.N[i]? = some x) (hx : Loc X.env.scope x) (h : DE X Γ e t) (hio' : Γ.ow.contains i = false := by rfl) (hs : swapsWith e (some (.Name x pos')) pos.line X.env = pure false := by rfl)
    (hf : X.fn x = true ∨ X.env.scope.names.lookup x = some .local := by first | exact .inl rfl | exact .inr rfl) : DS X Γ (.Assign [.Name x pos'] e pos) (sSet i t) := have hio := nmem_of hio'; ⟨PS.wk (ps_set hN hi hx h.p hs hf) fun E σ H ⟨R, ρ, n, fl, n', rp, e, q⟩ => by
  obtain ⟨d, m, e1, e⟩ := Mb_some e
  cases e
  exact ⟨R, ρ, n, d, _, rp, e1, fun v R1 H1 rp1 g1 z1 => q R1 H1 _ (rp1.set hio z1) g1.same⟩⟩
/-- an owned slot gets a fresh object -/
theorem ds_setO {i : Nat} {x : Str} {e : Expr} {t : Ed} {pos' : Pos} (hN : X.N.Nodup) (hi : X.N[i]? = some x) (hx : Loc X.env.scope x) (h : DO X Γ e t) (hio' : Γ.ow.contains i = true := by rfl) (hs : swapsWith e (some (.Name x pos')) pos.line X.env = pure false := by rfl)
    (hf : X.fn x = true ∨ X.env.scope.names.lookup x = some .local := by first | exact .inl rfl | exact .inr rfl) : DS X Γ (.Assign [.Name x pos'] e pos) (sSet i t) := have hio := mem_of hio'; ⟨PS.wk (ps_set hN hi hx h.p hs hf) fun E σ H ⟨R, ρ, n, fl, n', rp, e, q⟩ => by
  obtain ⟨d, m, e1, e⟩ := Mb_some e
  cases e
  exact ⟨R, ρ, n, d, _, rp, e1, fun a o R1 H1 rp1 g1 ha ha1 hR h0 hn f => q R1 H1 _ (rp1.setO hio ha1 hR h0 f fun j e hj _ he => hn j e hj he) g1.same⟩⟩
/-- name = [.. for ..] -/
theorem ds_setLc {i : Nat} {y : Str} {py : Pos} {elt tg iter : Expr} {ifs : List Expr} {scope : Scope} {own : List (Str × Nat)} {vs : List Nat} {spos : Pos} {ti : Id'} {g : Gd} {tt : Td} {te : Ed} (hN : X.N.Nodup) (hy : X.N[i]? = some y) (hyl : X.env.scope.names.lookup y = some .local)
    (hsw : swapsWith (.ListComp elt [⟨tg, iter, ifs, 0⟩] scope pos) (some (.Name y py)) spos.line X.env = pure true) (hi : DI X Γ tg iter ti) (ok : BlkOk X.N X.env.scope scope own)
    (hg : ∀ (s : Shared) (H : Hp) (C : Addr) (cl : List (Str × Addr)) (fp : List Addr), DG (X.blk s H scope (compEnvC scope cl C X.env) fp) Γ tg vs g) (ht : ∀ (s : Shared) (H : Hp) (C : Addr) (cl : List (Str × Addr)) (fp : List Addr), DTs (X.blk s H scope (compEnvC scope cl C X.env) fp) Γ ifs tt)
    (he : ∀ (s : Shared) (H : Hp) (C : Addr) (cl : List (Str × Addr)) (fp : List Addr), DE (X.blk s H scope (compEnvC scope cl C X.env) fp) Γ elt te) (hvs : own.map (·.2) = vs := by rfl) (hc : X.calm = true := by rfl) (hs : ∀ x, foldedSetIterable iter X.env x = pure x := by intro _; rfl) :
    DS X Γ (.Assign [.Name y py] (.ListComp elt [⟨tg, iter, ifs, 0⟩] scope pos) spos) (sSet i (eLc ti g tt te vs)) :=
  ⟨PS.wk (ps_setLc hc hN hy hyl hsw hi.p ok (fun s H C cl fp => (hg s H C cl fp).p) (fun s H C cl fp => (ht s H C cl fp).p) (fun s H C cl fp => (he s H C cl fp).p) hs) fun E σ H ⟨R, ρ, n, fl, n', rp, e, q⟩ => by
    obtain ⟨d, m, e1, e⟩ := Mb_some e
    cases e
    rw [hvs]
    refine lc_up rp e1 fun Z us R' H' rp' g' hZ hnO h0 hZ' hR' hl ⟨rs, er, f⟩ => ?_
    subst er
    by_cases hio : i ∈ Γ.ow
    · exact q R' H' _ (rp'.setO hio hZ' hR' h0 (.lst hl f) fun j e hj _ he => hnO j e hj he) g'.same
    · exact q _ H' _ ((rp'.freeze hZ' hR' h0 hnO).set hio (.lst upd_same hl (f.mono (same_new hR' _).le))) (g'.freeze hZ hR').same⟩
def sAsg (t : Ed) (g : Gd) : Bd := fun ρ => Mb (t ρ) fun d => Mb (Mo (g d ρ)) fun ρ' => Mp (.next ρ')
theorem ds_asg {tg e : Expr} {t : Ed} {vs : List Nat} {g : Gd} (h : DE X Γ e t) (hg : DG X Γ tg vs g) (hs : swapsWithSole [tg] e pos.line X.env = pure false := by rfl) (hw : swappedStores [tg] e X.env = pure none := by rfl)
    (h1 : (assignEach [tg] X.env).map (·.2) = [assign tg X.env] := by rfl) : DS X Γ (.Assign [tg] e pos) (sAsg t g) := ⟨PS.wk (ps_asg h.p hg.p hs hw h1) fun E σ H ⟨R, ρ, n, fl, n', rp, e, q⟩ => by
  obtain ⟨d, m, e1, w1⟩ := Mb_some e
  obtain ⟨ρ1, m1, e2, w2⟩ := Mb_some w1
  obtain ⟨e3, rfl⟩ := Mo_some e2
  cases w2
  exact ⟨R, ρ, n, d, _, rp, e1, fun v R1 H1 rp1 g1 z1 => ⟨R1, ρ, _, d, ρ1, rp1, z1, e3, fun σ' _ _ rp2 => q R1 H1 σ' rp2 g1.same⟩⟩⟩
def sIf (c : Td) (t u : Bd) : Bd := fun ρ => Mb (c ρ) fun b => if b = true then t ρ else u ρ
theorem ds_if {c : Expr} {a b : List Stmt} {pc : Td} (hc : DT X Γ c pc) (ha : DB X Γ a t) (hb : DB X Γ b u) : DS X Γ (.If c a b pos) (sIf pc t u) := ⟨PS.wk (ps_if hc.p ha.p hb.p) fun E σ H ⟨R, ρ, n, fl, n', rp, e, q⟩ => by
  obtain ⟨d, m, e1, e⟩ := Mb_some e
  refine ⟨R, ρ, n, d, m, rp, e1, fun R1 H1 rp1 g1 => ?_⟩
  cases d with
  | true => exact iteT ⟨R1, ρ, m, fl, n', rp1, e, q.mono g1.same⟩
  | false => exact iteF ⟨R1, ρ, m, fl, n', rp1, e, q.mono g1.same⟩⟩
/-! loops -/
def wM (c : Td) (b : Bd) : Nat → Bd
  | 0, _ => fun _ => none
  | k + 1, ρ => Mb (c ρ) fun x => if x = true then Mb (b ρ) fun fl => match fl with
      | .next ρ' => wM c b k ρ'
      | .cont ρ' => wM c b k ρ'
      | .brk ρ' => Mp (.next ρ')
      | .ret d => Mp (.ret d)
    else Mp (.next ρ)
/-- as many turns as any loop here can have -/
def FU : Nat := 1000000000
def sWh (c : Td) (b : Bd) : Bd := wM c b FU
theorem ds_wh {c : Expr} {body : List Stmt} {pc : Td} (hc : DT X Γ c pc) (hb : DB X Γ body t) (hp : PassesOwn (model X.prog X.w) X.A X.env X.xe := by exact PassesOwn.never) : DS X Γ (.While c body [] pos) (sWh pc t) := ⟨PS.wk (ps_while hp hc.p hb.p) fun E σ H ⟨R, ρ, n, fl, n', rp, e, q⟩ => by
  refine ⟨fun k σ H => ∃ R1 ρ n, Rp Γ R1 H σ ρ n ∧ Same R R1 ∧ wM pc t k ρ n = some (fl, n'), ⟨FU, R, ρ, n, rp, Same.refl _, e⟩, ?_⟩
  rintro k σ1 H1 ⟨R1, ρ1, n1, rp1, S1, e⟩
  cases k with
  | zero => cases e
  | succ k =>
    obtain ⟨x, m, e1, e⟩ := Mb_some e
    refine ⟨R1, ρ1, n1, x, m, rp1, e1, fun R2 H2 rp2 g2 => ?_⟩
    cases x with
    | false => cases e; exact iteF (q R2 H2 σ1 rp2 (S1.trans g2.same))
    | true =>
      obtain ⟨f1, m2, e2, e⟩ := Mb_some e
      refine iteT ⟨fun σ' H' => ∃ R1 ρ n, Rp Γ R1 H' σ' ρ n ∧ Same R R1 ∧ wM pc t k ρ n = some (fl, n'), fun σ' H' h => ⟨k, Nat.lt_succ_self k, h⟩, ?_⟩
      refine ⟨R2, ρ1, m, f1, m2, rp2, e2, ?_⟩
      cases f1 with
      | next ρ' => exact fun R' H' σ' rp' S' => ⟨R', ρ', m2, rp', (S1.trans g2.same).trans S', e⟩
      | cont ρ' => exact fun R' H' σ' rp' S' => ⟨R', ρ', m2, rp', (S1.trans g2.same).trans S', e⟩
      | brk ρ' => cases e; exact fun R' H' σ' rp' S' => q R' H' σ' rp' ((S1.trans g2.same).trans S')
      | ret d => cases e; exact q⟩
def fM (g : Gd) (b : Bd) : List D → Bd
  | [], ρ => Mp (.next ρ)
  | d :: r, ρ => Mb (Mo (g d ρ)) fun ρ1 => Mb (b ρ1) fun fl => match fl with
      | .next ρ' => fM g b r ρ'
      | .cont ρ' => fM g b r ρ'
      | .brk ρ' => Mp (.next ρ')
      | .ret d => Mp (.ret d)
def sFor (ti : Id') (g : Gd) (b : Bd) : Bd := fun ρ => Mb (ti ρ) fun ds => fM g b ds ρ
theorem ds_for {tg iter : Expr} {body : List Stmt} {ti : Id'} {vs : List Nat} {g : Gd} (hi : DI X Γ tg iter ti) (hg : DG X Γ tg vs g) (hb : DB X Γ body t) (hc : X.calm = true := by rfl) (hp : PassesOwn (model X.prog X.w) X.A X.env X.xe := by exact PassesOwn.never) (hs : ∀ x, foldedSetIterable iter X.env x = pure x := by intro _; rfl) :
    DS X Γ (.For tg iter body [] pos) (sFor ti g t) := ⟨PS.wk (ps_for hp hc hi.p hg.p hb.p hs) fun E σ H ⟨R, ρ, n, fl, n', rp, e, q⟩ => by
  obtain ⟨ds, m, e1, e⟩ := Mb_some e
  refine ⟨R, ρ, n, ds, m, rp, e1, fun J G Y R1 H1 rp1 S1 W hG hY hz => ?_⟩
  refine for_it W (fun i σ H => ∃ R2 ρ2 n2, Rp Γ R2 H σ ρ2 n2 ∧ Same R1 R2 ∧ fM g t (ds.drop i) ρ2 n2 = some (fl, n')) ?_ ?_ ?_ ?_
  · exact ⟨R1, ρ, m, rp1, Same.refl _, by rw [List.drop_zero]; exact e⟩
  · rintro i σ2 H2 _ ⟨R2, ρ2, n2, rp2, S2, _⟩
    exact hG H2 (S2.trans rp2.hp.same)
  · rintro i x σ2 H2 H3 hi ⟨R2, ρ2, n2, rp2, S2, e2⟩ hy
    have hd : ds[i]? = some ds[i] := List.getElem?_eq_getElem hi
    rw [List.drop_eq_getElem_cons hi] at e2
    obtain ⟨R3, rp3, g3, z3⟩ := yok_step rp2 hY S2 hd hy
    obtain ⟨ρ4, n3, e4, e5⟩ := Mb_some e2
    obtain ⟨e4', rfl⟩ := Mo_some e4
    obtain ⟨f1, n5, e6, e7⟩ := Mb_some e5
    refine ⟨R3, ρ2, _, ds[i], ρ4, rp3, z3, e4', fun σ4 _ _ rp4 => ⟨R3, ρ4, _, f1, n5, rp4, e6, ?_⟩⟩
    have S13 := S2.trans g3.same
    cases f1 with
    | next ρ' => exact fun R' H' σ' rp' S' => ⟨R', ρ', n5, rp', S13.trans S', e7⟩
    | cont ρ' => exact fun R' H' σ' rp' S' => ⟨R', ρ', n5, rp', S13.trans S', e7⟩
    | brk ρ' => cases e7; exact fun R' H' σ' rp' S' => q R' H' σ' rp' ((S1.same.trans S13).trans S')
    | ret d => cases e7; exact q
  · rintro σ2 H2 ⟨R2, ρ2, n2, rp2, S2, e2⟩
    rw [List.drop_length] at e2
    cases e2
    exact q R2 H2 σ2 rp2 (S1.same.trans S2)⟩
/-! changes of owned lists -/
def sApp (i : Nat) (t : Ed) : Bd := fun ρ => Mb (eVar i ρ) fun l => Mb (t ρ) fun d => match l with
  | .lst xs => if xs.length < sizeLine then Mp (.next (ρ.set i (some (.lst (xs ++ [d]))))) else Mo none
  | _ => Mo none
theorem Rp.ownL {R H : Hp} {σ : L2.St} {ρ : Sd} {n i : Nat} {ds : List D} (h : Rp Γ R H σ ρ n) (hi : i ∈ Γ.ow) (e : ρ[i]? = some (some (.lst ds))) : ∃ a xs, σ[i]? = some (some (.ref a)) ∧ H a = some (.lst xs) ∧ R a = none ∧ Γ.H0 a = none ∧ xs.length ≤ sizeLine ∧ FzA Γ.c R xs ds ∧ a ∉ Γ.W.dom := by
  obtain ⟨a, o, h1, h2, h3, h4, h5⟩ := h.own i _ hi e
  cases h5 with
  | lst z f => exact ⟨a, _, h1, h2, h3, h4, z, f, fun m => h.hp.d0 a m h4⟩
theorem ds_app {i : Nat} {o a : Expr} {ta : Ed} {apos cpos : Pos} (ho : PE X o (tVar i)) (ha : DE X Γ a ta) (hio' : Γ.ow.contains i = true := by rfl) (hbase : attributeBase o "append" X.env (eval o X.env) = eval o X.env := by rfl) (hline : (apos.endLine == cpos.line) = true := by rfl) (hs : starEach [a] X.env = (false, eval a X.env) :: starEach [] X.env := by rfl)
    (hfew : ((backTo cpos (starEach [a] X.env)).all (fun x => !x.1) && (backToKw cpos (keywordEach [] X.env)).all (fun x => x.1.isSome) && decide ([a].length + ([] : List Keyword).length + (if ([] : List Keyword).isEmpty then 0 else 1) < 30)) = true := by rfl) (hpl : (backTo cpos (starEach [] X.env)).any (·.1) = false := by rfl)
    (hsw : swapsWith (.Call (.Attribute o "append" apos) [a] [] cpos) none pos.line X.env = pure false := by rfl) : DS X Γ (.Expr (.Call (.Attribute o "append" apos) [a] [] cpos) pos) (sApp i ta) :=
  have hio := mem_of hio'
  ⟨PS.wk (ps_expr (pe_bm PySem.F.plainAttrs_list PySem.F.slot_list_append PySem.F.type_list_append mt_append ho (pa_cons ha.p pa_nil hs) hbase hfew hline hs hpl) hsw) fun E σ H ⟨R, ρ, n, fl, n', rp, e, q⟩ => by
    obtain ⟨l, m, e1, e⟩ := Mb_some e
    obtain ⟨d, m2, e2, e⟩ := Mb_some e
    obtain ⟨e1', rfl⟩ := eVar_some e1
    cases l with
    | lst xs =>
      by_cases hz : xs.length < sizeLine
      · have e' : some (Fl.next (ρ.set i (some (.lst (xs ++ [d])))), m2) = some (fl, n') := by
          rw [← e]; show _ = (if xs.length < sizeLine then Mp (Fl.next (ρ.set i (some (.lst (xs ++ [d]))))) else Mo none) m2
          rw [if_pos hz]; rfl
        cases e'
        obtain ⟨la, us, h1, h2, h3, h4, h5, f, hd⟩ := rp.ownL hio e1'
        refine ⟨_, h1, .inl ⟨rfl, _, SqL.of h2⟩, R, ρ, _, d, _, rp, e2, fun v R1 H1 rp1 g1 z1 => ?_⟩
        obtain ⟨h2', h3'⟩ := g1.stay h2 hd h3
        have f1 := f.mono g1.le
        refine ⟨la, us, v, rfl, rfl, h2', by rw [f.len]; exact hz, q R1 _ σ (rp1.mut hio e1' h1 (.lst ?_ (f1.app (.cons z1 .nil)))) g1.same⟩
        rw [List.length_append, f.len]; exact hz
      · have e' : (none : Option (Fl × Nat)) = some (fl, n') := by
          rw [← e]; show _ = (if xs.length < sizeLine then Mp (Fl.next (ρ.set i (some (.lst (xs ++ [d]))))) else Mo none) m2
          rw [if_neg hz]; rfl
        cases e'
    | _ => cases e⟩
def fExt : D → D → Option D
  | .lst xs, .lst ys => szl (xs.length + ys.length) (.lst (xs ++ ys))
  | .lst xs, .tup ys => szl (xs.length + ys.length) (.lst (xs ++ ys))
  | _, _ => none
def sExt (i : Nat) (t : Ed) : Bd := fun ρ => Mb (eVar i ρ) fun l => Mb (t ρ) fun d => Mb (Mo (fExt l d)) fun r => Mp (.next (ρ.set i (some r)))
theorem ds_ext {i : Nat} {o a : Expr} {ta : Ed} {apos cpos : Pos} (ho : PE X o (tVar i)) (ha : DE X Γ a ta) (hio' : Γ.ow.contains i = true := by rfl) (hbase : attributeBase o "extend" X.env (eval o X.env) = eval o X.env := by rfl) (hline : (apos.endLine == cpos.line) = true := by rfl) (hs : starEach [a] X.env = (false, eval a X.env) :: starEach [] X.env := by rfl)
    (hfew : ((backTo cpos (starEach [a] X.env)).all (fun x => !x.1) && (backToKw cpos (keywordEach [] X.env)).all (fun x => x.1.isSome) && decide ([a].length + ([] : List Keyword).length + (if ([] : List Keyword).isEmpty then 0 else 1) < 30)) = true := by rfl) (hpl : (backTo cpos (starEach [] X.env)).any (·.1) = false := by rfl)
    (hsw : swapsWith (.Call (.Attribute o "extend" apos) [a] [] cpos) none pos.line X.env = pure false := by rfl) (hK : X.K = Γ.c.K := by rfl) : DS X Γ (.Expr (.Call (.Attribute o "extend" apos) [a] [] cpos) pos) (sExt i ta) := by
  have hio := mem_of hio'
  have P1 := ps_expr (pos := pos) (pe_bm PySem.F.plainAttrs_list PySem.F.slot_list_extend PySem.F.type_list_extend mt_extend ho (pa_cons ha.p pa_nil hs) hbase hfew hline hs hpl) hsw
  have P2 := ps_expr (pos := pos) (pe_bm PySem.F.plainAttrs_list PySem.F.slot_list_extend PySem.F.type_list_extend mt_extT ho (pa_cons ha.p pa_nil hs) hbase hfew hline hs hpl) hsw
  refine ⟨⟨fun pins s σ H E I ⟨R, ρ, n, fl, n', rp, e, q⟩ => ?_⟩⟩
  obtain ⟨l, m, e1, w1⟩ := Mb_some e
  obtain ⟨d, m2, e2, w2⟩ := Mb_some w1
  obtain ⟨rr, m3, e3, w3⟩ := Mb_some w2
  obtain ⟨e1', rfl⟩ := eVar_some e1
  obtain ⟨e3', rfl⟩ := Mo_some e3
  cases w3
  cases l with
  | lst xs =>
    obtain ⟨la, us, h1, h2, h3, h4, h5, f, hd⟩ := rp.ownL hio e1'
    cases d with
    | lst ys =>
      obtain ⟨hz, rfl⟩ := szl_some e3'
      refine P1.run pins s σ H E I ⟨_, h1, .inl ⟨rfl, _, SqL.of h2⟩, R, ρ, _, _, _, rp, e2, fun v R1 H1 rp1 g1 z1 => ?_⟩
      obtain ⟨h2', h3'⟩ := g1.stay h2 hd h3
      have f1 := f.mono g1.le
      obtain ⟨b, vs, rfl, hb, lb, fb⟩ := z1.lst_inv
      have hz' : us.length + vs.length ≤ sizeLine := by rw [f.len, fb.len]; exact hz
      exact ⟨la, b, us, vs, rfl, rfl, h2', rp1.hp.same _ _ hb, hz', q R1 _ σ (rp1.mut hio e1' h1 (.lst (by rw [List.length_append]; exact hz') (f1.app fb))) g1.same⟩
    | tup ys =>
      obtain ⟨hz, rfl⟩ := szl_some e3'
      refine P2.run pins s σ H E I ⟨_, h1, .inl ⟨rfl, _, SqL.of h2⟩, R, ρ, _, _, _, rp, e2, fun v R1 H1 rp1 g1 z1 => ?_⟩
      obtain ⟨h2', h3'⟩ := g1.stay h2 hd h3
      have f1 := f.mono g1.le
      obtain ⟨b, vs, rfl, hb, lb, fb⟩ := z1.tup_inv
      have hz' : us.length + vs.length ≤ sizeLine := by rw [f.len, fb.len]; exact hz
      exact ⟨la, b, us, vs, rfl, rfl, h2', hK ▸ rp1.hp.same.le.sqT hb, hz', q R1 _ σ (rp1.mut hio e1' h1 (.lst (by rw [List.length_append]; exact hz') (f1.app fb))) g1.same⟩
    | _ => cases e3'
  | _ => cases e3'
/-- target = xs.pop() -/
def fPop : D → Option (D × D)
  | .lst xs => xs.getLast?.map fun d => (d, .lst xs.dropLast)
  | _ => none
def sPop (i : Nat) (g : Gd) : Bd := fun ρ => Mb (eVar i ρ) fun l => Mb (Mo (fPop l)) fun p => Mb (Mo (g p.1 (ρ.set i (some p.2)))) fun ρ' => Mp (.next ρ')
theorem ds_pop {i : Nat} {o tg : Expr} {vs : List Nat} {g : Gd} {apos cpos : Pos} (ho : PE X o (tVar i)) (hg : DG X Γ tg vs g) (hio' : Γ.ow.contains i = true := by rfl) (hbase : attributeBase o "pop" X.env (eval o X.env) = eval o X.env := by rfl) (hline : (apos.endLine == cpos.line) = true := by rfl)
    (hs : swapsWithSole [tg] (.Call (.Attribute o "pop" apos) [] [] cpos) pos.line X.env = pure false := by rfl) (hw : swappedStores [tg] (.Call (.Attribute o "pop" apos) [] [] cpos) X.env = pure none := by rfl)
    (h1 : (assignEach [tg] X.env).map (·.2) = [assign tg X.env] := by rfl) : DS X Γ (.Assign [tg] (.Call (.Attribute o "pop" apos) [] [] cpos) pos) (sPop i g) :=
  have hio := mem_of hio'
  ⟨PS.wk (ps_asg (pe_bm0 PySem.F.plainAttrs_list PySem.F.slot_list_pop PySem.F.type_list_pop mt_pop ho hbase hline) hg.p hs hw h1) fun E σ H ⟨R, ρ, n, fl, n', rp, e, q⟩ => by
    obtain ⟨l, m, e1, w1⟩ := Mb_some e
    obtain ⟨p, m2, e2, w2⟩ := Mb_some w1
    obtain ⟨ρ1, m3, e3, w3⟩ := Mb_some w2
    obtain ⟨e1', rfl⟩ := eVar_some e1
    obtain ⟨e2', rfl⟩ := Mo_some e2
    obtain ⟨e3', rfl⟩ := Mo_some e3
    cases w3
    cases l with
    | lst xs =>
      obtain ⟨d, ed, rfl⟩ := Option.map_eq_some_iff.mp e2'
      obtain ⟨la, us, h1, h2, h3, h4, h5, f, hd⟩ := rp.ownL hio e1'
      obtain ⟨ys, rfl⟩ : ∃ ys, xs = ys ++ [d] := List.getLast?_eq_some_iff.mp ed
      obtain ⟨us0, u, rfl, f0, z0⟩ := f.snoc_inv
      refine ⟨_, h1, .inl ⟨rfl, _, SqL.of h2⟩, la, us0 ++ [u], u, rfl, rfl, h2, by rw [List.length_append]; simp, ?_⟩
      rw [List.dropLast_concat]
      have e4 : (ys ++ [d]).dropLast = ys := List.dropLast_concat
      rw [e4] at e3'
      refine ⟨R, ρ.set i (some (.lst ys)), _, d, ρ1, rp.mut hio e1' h1 (.lst ?_ f0), z0, e3', fun σ' _ _ rp' => q R _ σ' rp' (Same.refl _)⟩
      rw [List.length_append] at h5
      omega
    | _ => cases e2'⟩
/-- name += e -/
def sAug (i : Nat) (f : D → D → Option D) (t : Ed) : Bd := fun ρ => Mb (eVar i ρ) fun x => Mb (t ρ) fun y => Mb (Mo (f x y)) fun z => Mp (.next (ρ.set i (some z)))
def fAddI : D → D → Option D
  | .int i, .int j => some (.int (i + j))
  | _, _ => none
theorem ds_augI {i : Nat} {x : Str} {e : Expr} {t : Ed} {pos' : Pos} (hN : X.N.Nodup) (hi : X.N[i]? = some x) (hx : Loc X.env.scope x) (h : DE X Γ e t) (hio' : Γ.ow.contains i = false := by rfl) (hf : X.fn x = true ∨ X.env.scope.names.lookup x = some .local := by first | exact .inl rfl | exact .inr rfl) :
    DS X Γ (.AugAssign (.Name x pos') .Add e pos) (sAug i fAddI t) := have hio := nmem_of hio'; ⟨PS.wk (ps_aug hN hi hx h.p ip_add hf) fun E σ H ⟨R, ρ, n, fl, n', rp, e, q⟩ => by
  obtain ⟨l, m, e1, w1⟩ := Mb_some e
  obtain ⟨d, m2, e2, w2⟩ := Mb_some w1
  obtain ⟨rr, m3, e3, w3⟩ := Mb_some w2
  obtain ⟨e1', rfl⟩ := eVar_some e1
  obtain ⟨e3', rfl⟩ := Mo_some e3
  cases w3
  obtain ⟨v, h1, h2⟩ := rp.fz i l hio e1'
  refine ⟨v, h1, R, ρ, _, d, _, rp, e2, fun u R1 H1 rp1 g1 z1 => ?_⟩
  cases h2 with
  | int i1 => cases z1 with
    | int j1 => cases e3'; exact ⟨i1, j1, rfl, rfl, q R1 H1 _ (rp1.set hio (.int _)) g1.same⟩
    | _ => cases e3'
  | _ => cases e3'⟩
end
/-! a def -/
def fnS (k : Nat) (t : Bd) (ds : List D) : M D := fun n => match t (ds.map some ++ List.replicate (k - ds.length) none) n with
  | some (.ret d, n') => some (d, n')
  | some (.next _, n') => some (.non, n')
  | _ => none
def fnA (a k : Nat) (t : Bd) (ds : List D) : M D := fun n => if ds.length = a then fnS k t ds n else none
theorem rp_start {c : Cn} {W : Wd} {ow : List Nat} {H R : Hp} {n : Nat} {N : List Str} {vs : List V} {ds : List D} (hl : ∀ i ∈ ow, vs.length ≤ i) (f : FzA c R vs ds) (h : HpOk ⟨c, W, [], H, R⟩ R H n) : Rp ⟨c, W, ow, H, R⟩ R H (L2.start N vs) (ds.map some ++ List.replicate (N.length - ds.length) none) n := by
  have e0 : ∀ i d, (ds.map some ++ List.replicate (N.length - ds.length) (none : Option D))[i]? = some (some d) → ds[i]? = some d := fun i d e => by
    by_cases hi : i < ds.length
    · rw [List.getElem?_append_left (by rw [List.length_map]; exact hi), List.getElem?_map, List.getElem?_eq_getElem hi] at e
      rw [List.getElem?_eq_getElem hi]
      simpa using e
    · rw [List.getElem?_append_right (by rw [List.length_map]; omega), List.getElem?_replicate] at e
      split at e <;> cases e
  refine ⟨?_, fun i d _ e => ?_, fun i d hi e => ?_, fun i j a d1 d2 hi hj e1 => ?_, ⟨h.same, h.dj, h.d0, h.wd, h.keep, h.r0, h.new⟩⟩
  · unfold L2.start
    rw [List.length_append, List.length_append, List.length_map, List.length_map, List.length_replicate, List.length_replicate, f.len]
  · obtain ⟨v, h1, h2⟩ := f.get (e0 i d e)
    refine ⟨v, ?_, h2⟩
    have hi : i < vs.length := (List.getElem?_eq_some_iff.mp h1).1
    unfold L2.start
    rw [List.getElem?_append_left (by rw [List.length_map]; exact hi), List.getElem?_map, h1]
    rfl
  · have h1 := (List.getElem?_eq_some_iff.mp (e0 i d e)).1
    have h2 := hl i hi
    rw [f.len] at h2
    omega
  · have h1 := (List.getElem?_eq_some_iff.mp (e0 i d1 e1)).1
    have h2 := hl i hi
    rw [f.len] at h2
    omega
/-- a def's promise by its body -/
theorem fn_ok {P : Program} {w : World} {K : PySem.W.Frag} {mg : Str → Option Value} {base : Heap} {x qual : Str} {params : Arguments} {body : List Stmt} {scope : Scope} {dvs : List V} {kws : List (Str × V)} {fa : Addr} {fd : FuncData} {N ps : List Str} {k : Nat} {c : Cn} {W : Wd} {t : Bd} (ow : List Nat)
    (F : FunD K x qual params body scope dvs kws fa fd) (S : FnScope N ps scope) (how : ow.all (fun i => ps.length ≤ i) = true)
    (hb : ∀ (cdv : Value) (A : Around) (outer : List Env) (s : Shared) (H : Hp) (E : XK) (R : Hp), Room k (A.deeper (PyProof.Rows.envOfC qual scope s.heap.objs.size fa cdv)) → DB (cxOf CX0 P w K mg base N qual scope fa cdv A outer s H E).nox ⟨c, W, ow, H, R⟩ body t) :
    FnOk P w K mg base CX0 (k + 1) fa fd ps (spM c W (fnA ps.length N.length t)) := by
  refine F.ok S (fun vs H Q E h => ?_) (fun cdv A outer s H vs Q E hr h => ?_)
  · obtain ⟨R, ds, r, n, n', f, _, e, _⟩ := h
    rw [f.len]; exact (ite_some e).1
  · obtain ⟨R, ds, r, n, n', f, hp, e, q⟩ := h
    obtain ⟨hl, e⟩ := ite_some e
    · refine ⟨_, PSs.nox (hb cdv A outer s H E R hr).p, ?_⟩
      unfold fnS at e
      have rp := rp_start (c := c) (W := W) (ow := ow) (N := N) (fun i hi => by
        have := List.all_eq_true.mp how i hi
        rw [f.len, hl]; exact of_decide_eq_true this) f hp
      cases e1 : t (ds.map some ++ List.replicate (N.length - ds.length) none) n with
      | none => rw [e1] at e; cases e
      | some p =>
        obtain ⟨fl, m⟩ := p
        rw [e1] at e
        refine ⟨R, _, n, fl, m, rp, e1, ?_⟩
        cases fl with
        | ret d => cases e; exact fun v R' H' k z => q v R' H' ⟨k.same, k.dj, k.d0, k.wd, k.keep, k.r0, k.new⟩ z
        | next ρ => cases e; exact fun R' H' σ' rp' S' => q .non R' H' ⟨rp'.hp.same, rp'.hp.dj, rp'.hp.d0, rp'.hp.wd, rp'.hp.keep, rp'.hp.r0, rp'.hp.new⟩ .non
        | brk ρ => cases e
        | cont ρ => cases e
end Sh

set_option Elab.async false
set_option linter.all false
set_option maxRecDepth 100000
namespace Sh
open PySem L2 Nf
/-- a module's constant -/
def GlobD (K : PySem.W.Frag) (mg : Str → Option Value) (x : Str) (d : D) : Prop := ∃ v u, mg x = some u ∧ RelV v u ∧ ∀ dk R, Fz ⟨K, dk⟩ R v d
theorem d_glob {X : Cx} {Γ : Gm} {x : Str} {d : D} {pos : Pos} (hg : Gl X x) (h : GlobD X.K X.mg x d) (hK : X.K = Γ.c.K := by rfl) (hd : (x == ("__debug__" : Str)) = false := by decide) : DE X Γ (.Name x pos) (eC d) := by
  obtain ⟨v, u, hm, r, hv⟩ := h
  refine d_c (pe_glob hg hm r hd) fun R => ?_
  have := hv Γ.c.dk R
  rw [hK] at this
  exact this
end Sh

set_option Elab.async false
set_option linter.all false
set_option maxRecDepth 100000
/-! a, b, c = a list -/
namespace Sh
open PySem PySem.Spec PyProof.Rows L2
section
variable {prog : Program} {w : World} {A : Around} {E : Value → Shared → Prop}
theorem drawn_lst {it l : Addr} {vs : Array Value} (ne : l ≠ it) : ∀ (k i : Nat) (s : Shared) (Q : List Value → Shared → Prop), s.heap.IsListIter it l i → s.heap.IsList l vs → i + k ≤ vs.size →
    (∀ g, g.IsListIter it l (i + k) → Heap.SameBut it s.heap g → Q ((vs.toList.drop i).take k) { s with heap := g }) → wpAny (model prog w) A (draw (.ref it) k) Q E s
  | 0, i, s, Q, a, _, _, q => by
    show wpAny (model prog w) A (pure ([] : List Value)) Q E s
    refine wpAny_pure ?_
    simpa using q s.heap a (Heap.SameBut.refl ..)
  | k + 1, i, s, Q, a, b, le, q => by
    have lt : i < vs.size := by omega
    unfold draw
    refine wpAny_bind (wpAny_pyNext_list_item a b (x := vs[i]) (by simp [lt]) fun g1 a1 s1 => ?_)
    refine wpAny_bind (wpAny_holding (drawn_lst ne k (i + 1) _ _ a1 (b.extBut s1.extBut ne) (by omega) fun g2 a2 s2 => wpAny_pure ?_))
    have z := q g2 (by rw [show i + (k + 1) = i + 1 + k by omega]; exact a2) (s1.trans s2)
    rwa [List.drop_eq_getElem_cons (by simpa using lt), List.take_succ_cons] at z
theorem unpacked_lst {s : Shared} {l : Addr} {vs : Array Value} {Q : List Value → Shared → Prop} (hh : A.handled = none) (b : s.heap.IsList l vs)
    (q : ∀ g, Heap.ExtBut s.heap.objs.size s.heap g → Q vs.toList { s with heap := g }) : wpAny (model prog w) A (unpackItems (.ref l) vs.size none) Q E s := by
  have ne : l ≠ s.heap.objs.size := by obtain ⟨o, ho, _⟩ := b; exact Nat.ne_of_lt (Heap.lt_size ho)
  have all : (vs.toList.drop 0).take vs.size = vs.toList := by rw [List.drop_zero]; exact List.take_of_length_le (by simp)
  unfold unpackItems notIterableAtAll
  refine wpAny_bind (wpAny_bind (wpAny_specialOf b.typeIs slot_list_iter.lookup (wpAny_pure ?_)))
  rw [if_neg (by decide)]
  refine wpAny_bind (wpAny_holding (wpAny_pyIter_list b ?_))
  refine wpAny_bind (wpAny_holding (drawn_lst ne vs.size 0 _ _ ⟨_, Heap.get?_push_size _ rfl, rfl, rfl⟩ (b.push _) (by omega) fun g1 a1 s1 => ?_))
  rw [all, if_neg (by simp)]
  have b1 : g1.IsList l vs := (b.push _).extBut s1.extBut ne
  refine wpAny_bind (wpAny_holding (wpAny_pyNext_list_end hh a1 b1 (by simp) fun g2 e2 => ?_))
  rw [if_neg (by simp)]
  exact wpAny_pure (q g2 fun c o hc e => e2 c o hc (s1.extBut c o hc (Heap.get?_push_of_some _ e)))
end
def gLst (K : PySem.W.Frag) (n : Nat) (t : TGs) : TG := fun v σ H Q => ∃ a xs, v = .ref a ∧ SqL K H a xs ∧ xs.length = n ∧ t xs σ H Q
theorem pg_lst {X : Cx} {es : List Expr} {k : Nat} {t : TGs} {n : Nat} {pos : Pos} (hc : X.calm = true) (h : PGs X es t) (hn : (assignEach es X.env).length = n := by rfl) (hst : (assignEach es X.env).findIdx? (·.1) = none := by rfl) : PG X (.Tuple es k pos) (gLst X.K n t) := by
  refine ⟨fun pins s σ H v u Q I r hw => ?_⟩
  obtain ⟨a, xs, rfl, hq, hl, hw⟩ := hw
  cases r
  obtain ⟨its, rv, p, hz⟩ := I.list hq
  rw [assign_Tuple]
  refine wpAny_bind (wpAny_standAt ?_)
  unfold unpack
  have e1 : (assignEach es X.env).length = its.toArray.size := by rw [hn, ← hl, rv.length]; simp
  rw [e1, hst]
  refine wpAny_bind (wpAny_holding (unpacked_lst (I.ok.hd hc) p.isList fun g hx => ?_))
  have I1 : Inv X pins σ H { s with heap := g } := I.kept (t' := s.toks) fun b o e => hx b o (Nat.ne_of_lt (Heap.lt_size e)) e
  exact h.run pins _ σ H xs _ Q I1 (by simpa using rv) hw
end Sh

set_option Elab.async false
set_option linter.all false
set_option maxRecDepth 100000
/-! going through functions over data -/
namespace Sh
open PySem L2 Nf
section
variable {ρ ρ' : Sd} {n m m' : Nat} {t u : Bd} {d x y z : D} {a b c : Ed} {r : Option (Fl × Nat)}
theorem fn_ret {k j : Nat} {ds : List D} (hl : ds.length = k) (h : t (ds.map some ++ List.replicate (j - ds.length) none) n = some (.ret d, m)) : fnA k j t ds n = some (d, m) := by
  unfold fnA fnS; rw [if_pos hl, h]
theorem fn_none {k j : Nat} {ds : List D} (hl : ds.length = k) (h : t (ds.map some ++ List.replicate (j - ds.length) none) n = some (.next ρ, m)) : fnA k j t ds n = some (.non, m) := by
  unfold fnA fnS; rw [if_pos hl, h]
theorem bSeq_n (h : t ρ n = some (.next ρ', m)) : bSeq t u ρ n = u ρ' m := by unfold bSeq Mb; rw [h]
theorem bSeq_r (h : t ρ n = some (.ret d, m)) : bSeq t u ρ n = some (.ret d, m) := by unfold bSeq Mb; rw [h]; rfl
theorem bSeq_c (h : t ρ n = some (.cont ρ', m)) : bSeq t u ρ n = some (.cont ρ', m) := by unfold bSeq Mb; rw [h]; rfl
theorem sSet_n {i : Nat} (h : a ρ n = some (d, m)) : sSet i a ρ n = some (.next (ρ.set i (some d)), m) := by unfold sSet Mb; rw [h]; rfl
theorem sRet_r (h : a ρ n = some (d, m)) : sRet a ρ n = some (.ret d, m) := by unfold sRet Mb; rw [h]; rfl
theorem sIf_t {c : Td} (h : c ρ n = some (true, m)) : sIf c t u ρ n = t ρ m := by unfold sIf Mb; rw [h]; rfl
theorem sIf_f {c : Td} (h : c ρ n = some (false, m)) : sIf c t u ρ n = u ρ m := by unfold sIf Mb; rw [h]; rfl
theorem sFor_i {ti : Id'} {g : Gd} {ds : List D} (h : ti ρ n = some (ds, m)) : sFor ti g t ρ n = fM g t ds ρ m := by unfold sFor Mb; rw [h]
theorem fM_nil {g : Gd} : fM g t [] ρ n = some (.next ρ, n) := rfl
theorem fM_next {g : Gd} {ds : List D} {ρ1 : Sd} (h : g d ρ = some ρ1) (k : t ρ1 n = some (.next ρ', m)) : fM g t (d :: ds) ρ n = fM g t ds ρ' m := by
  simp only [fM, Mb, h, Mo, Option.map_some, k]
theorem fM_cont {g : Gd} {ds : List D} {ρ1 : Sd} (h : g d ρ = some ρ1) (k : t ρ1 n = some (.cont ρ', m)) : fM g t (d :: ds) ρ n = fM g t ds ρ' m := by
  simp only [fM, Mb, h, Mo, Option.map_some, k]
theorem fM_ret {g : Gd} {ds : List D} {ρ1 : Sd} {e : D} (h : g d ρ = some ρ1) (k : t ρ1 n = some (.ret e, m)) : fM g t (d :: ds) ρ n = some (.ret e, m) := by
  simp only [fM, Mb, h, Mo, Option.map_some, k]; rfl
theorem e1_e {f : D → Option D} (h : a ρ n = some (x, m)) (k : f x = some y) : e1 f a ρ n = some (y, m) := by unfold e1 Mb; rw [h]; simp only [Mo, k, Option.map_some]
theorem e2_e {f : D → D → Option D} (h : a ρ n = some (x, m)) (h2 : b ρ m = some (y, m')) (k : f x y = some z) : e2 f a b ρ n = some (z, m') := by
  unfold e2 Mb; rw [h]; simp only [h2]; simp only [Mo, k, Option.map_some]
theorem trB_e {b : Bool} (h : a ρ n = some (x, m)) (k : fTr x = some b) : trB a ρ n = some (b, m) := by unfold trB Mb; rw [h]; simp only [Mo, k, Option.map_some]
theorem tNt_e {c : Td} {b : Bool} (h : c ρ n = some (b, m)) : tNt c ρ n = some (!b, m) := by unfold tNt Mb; rw [h]; rfl
theorem tAn_f {c e : Td} (h : c ρ n = some (false, m)) : tAn c e ρ n = some (false, m) := by unfold tAn Mb; rw [h]; rfl
theorem tAn_t {c e : Td} (h : c ρ n = some (true, m)) : tAn c e ρ n = e ρ m := by unfold tAn Mb; rw [h]; rfl
theorem tOr_f {c e : Td} (h : c ρ n = some (false, m)) : tOr' c e ρ n = e ρ m := by unfold tOr' Mb; rw [h]; rfl
theorem tOr_t {c e : Td} (h : c ρ n = some (true, m)) : tOr' c e ρ n = some (true, m) := by unfold tOr' Mb; rw [h]; rfl
theorem aCons_e {t : Ad} {ds : List D} (h : a ρ n = some (d, m)) (k : t ρ m = some (ds, m')) : aCons a t ρ n = some (d :: ds, m') := by
  unfold aCons Mb; rw [h]; simp only [k]; rfl
theorem aNil_e : aNil ρ n = some ([], n) := rfl
theorem eCall_e {f : List D → M D} {t : Ad} {ds : List D} (h : t ρ n = some (ds, m)) (k : f ds m = some (d, m')) : eCall f t ρ n = some (d, m') := by unfold eCall Mb; rw [h]; exact k
theorem eTup_e {t : Ad} {ds : List D} (h : t ρ n = some (ds, m)) : eTup t ρ n = some (.tup ds, m) := by unfold eTup Mb; rw [h]; rfl
theorem eLst_e {t : Ad} {ds : List D} (h : t ρ n = some (ds, m)) : eLst t ρ n = some (.lst ds, m) := by unfold eLst Mb; rw [h]; rfl
theorem eF_e {f : List D → Option D} {t : Ad} {ds : List D} (h : t ρ n = some (ds, m)) (k : f ds = some d) : eF f t ρ n = some (d, m) := by unfold eF Mb; rw [h]; simp only [Mo, k, Option.map_some]
theorem iSeq_e {ds : List D} (h : a ρ n = some (x, m)) (k : fItems x = some ds) : iSeq a ρ n = some (ds, m) := by unfold iSeq Mb; rw [h]; simp only [Mo, k, Option.map_some]
theorem i1_e {f : D → Option (List D)} {ds : List D} (h : a ρ n = some (x, m)) (k : f x = some ds) : i1 f a ρ n = some (ds, m) := by unfold i1 Mb; rw [h]; simp only [Mo, k, Option.map_some]
theorem i2_e {f : D → D → Option (List D)} {ds : List D} (h : a ρ n = some (x, m)) (h2 : b ρ m = some (y, m')) (k : f x y = some ds) : i2 f a b ρ n = some (ds, m') := by
  unfold i2 Mb; rw [h]; simp only [h2]; simp only [Mo, k, Option.map_some]
theorem eLc_e {ti : Id'} {g : Gd} {tt : Td} {te : Ed} {vs : List Nat} {ds rs : List D} (h : ti ρ n = some (ds, m)) (k : lcM g tt te (wipeD ρ vs) ds m = some (rs, m')) : eLc ti g tt te vs ρ n = some (.lst rs, m') := by
  unfold eLc Mb; rw [h]; simp only [k]; rfl
theorem lcM_cons {g : Gd} {te : Ed} {ds rs : List D} {ρ1 : Sd} (h : g d ρ = some ρ1) (k : te ρ1 n = some (y, m)) (j : lcM g tY te ρ ds m = some (rs, m')) : lcM g tY te ρ (d :: ds) n = some (y :: rs, m') := by
  simp only [lcM, Mb, h, Mo, Option.map_some, tY, Mp, k, if_true, j]
theorem sAsg_n {g : Gd} (h : a ρ n = some (d, m)) (k : g d ρ = some ρ') : sAsg a g ρ n = some (.next ρ', m) := by unfold sAsg Mb; rw [h]; simp only [Mo, k, Option.map_some]; rfl
/-- a comprehension whose elements are pure -/
theorem lcM_map {α : Type} {g : Gd} {te : Ed} {f : α → D} {h : α → D} {n : Nat} : ∀ (xs : List α), (∀ x ∈ xs, ∃ ρ1, g (f x) ρ = some ρ1 ∧ te ρ1 n = some (h x, n)) → lcM g tY te ρ (xs.map f) n = some (xs.map h, n)
  | [], _ => rfl
  | x :: r, q => by
    obtain ⟨ρ1, h1, h2⟩ := q x (by simp)
    exact lcM_cons h1 h2 (lcM_map r fun y hy => q y (by simp [hy]))
theorem items_tup {ds : List D} (h : ds.length ≤ 1000000) : fItems (.tup ds) = some ds := by
  show szl ds.length ds = _; unfold szl; rw [if_pos (by rw [PySem.sizeLine_eq]; omega)]
theorem items_lst {ds : List D} (h : ds.length ≤ 1000000) : fItems (.lst ds) = some ds := by
  show szl ds.length ds = _; unfold szl; rw [if_pos (by rw [PySem.sizeLine_eq]; omega)]
theorem eq_str {x y : Str} : fEq (.str x) (.str y) = some (.bl (decide (x = y))) := rfl
theorem ne_str {x y : Str} : fNe (.str x) (.str y) = some (.bl (!decide (x = y))) := rfl
theorem eq_int {x y : Int} : fEq (.int x) (.int y) = some (.bl (decide (x = y))) := rfl
end
section
variable {ρ ρ' : Sd} {n m m' f i : Nat} {t : Bd} {d x y z : D} {a : Ed} {c : Td} {g : Gd} {xs ys : List D}
theorem wM_t (h : c ρ n = some (true, m)) (k : t ρ m = some (.next ρ', m')) : wM c t (f + 1) ρ n = wM c t f ρ' m' := by
  simp only [wM, Mb, h, if_true, k]
theorem wM_c (h : c ρ n = some (true, m)) (k : t ρ m = some (.cont ρ', m')) : wM c t (f + 1) ρ n = wM c t f ρ' m' := by
  simp only [wM, Mb, h, if_true, k]
theorem wM_r (h : c ρ n = some (true, m)) (k : t ρ m = some (.ret d, m')) : wM c t (f + 1) ρ n = some (.ret d, m') := by
  simp only [wM, Mb, h, if_true, k]; rfl
theorem wM_f (h : c ρ n = some (false, m)) : wM c t (f + 1) ρ n = some (.next ρ, m) := by
  simp only [wM, Mb, h, Bool.false_eq_true, if_false]; rfl
theorem eVar_e (h : ρ[i]? = some (some d)) : eVar i ρ n = some (d, n) := by unfold eVar; rw [h]
theorem sPop_n (h : ρ[i]? = some (some (.lst (xs ++ [d])))) (k : g d (ρ.set i (some (.lst xs))) = some ρ') : sPop i g ρ n = some (.next ρ', n) := by
  have e : fPop (.lst (xs ++ [d])) = some (d, .lst xs) := by
    show ((xs ++ [d]).getLast?).map _ = _
    rw [List.getLast?_concat, Option.map_some, List.dropLast_concat]
  unfold sPop Mb
  rw [eVar_e h]
  simp only [Mo, e, Option.map_some, k]
  rfl
theorem sExt_l (h : ρ[i]? = some (some (.lst xs))) (ha : a ρ n = some (.lst ys, m)) (hz : xs.length + ys.length ≤ 1000000) : sExt i a ρ n = some (.next (ρ.set i (some (.lst (xs ++ ys)))), m) := by
  have e : fExt (.lst xs) (.lst ys) = some (.lst (xs ++ ys)) := by
    show szl _ _ = _; unfold szl; rw [if_pos (by rw [PySem.sizeLine_eq]; omega)]
  unfold sExt Mb
  rw [eVar_e h]
  simp only [ha, Mo, e, Option.map_some]
  rfl
theorem sExt_t (h : ρ[i]? = some (some (.lst xs))) (ha : a ρ n = some (.tup ys, m)) (hz : xs.length + ys.length ≤ 1000000) : sExt i a ρ n = some (.next (ρ.set i (some (.lst (xs ++ ys)))), m) := by
  have e : fExt (.lst xs) (.tup ys) = some (.lst (xs ++ ys)) := by
    show szl _ _ = _; unfold szl; rw [if_pos (by rw [PySem.sizeLine_eq]; omega)]
  unfold sExt Mb
  rw [eVar_e h]
  simp only [ha, Mo, e, Option.map_some]
  rfl
theorem sApp_n (h : ρ[i]? = some (some (.lst xs))) (ha : a ρ n = some (d, m)) (hz : xs.length < 1000000) : sApp i a ρ n = some (.next (ρ.set i (some (.lst (xs ++ [d])))), m) := by
  unfold sApp Mb
  rw [eVar_e h]
  simp only [ha]
  rw [if_pos (by rw [PySem.sizeLine_eq]; omega)]
  rfl
theorem sAug_n {j k : Int} (h : ρ[i]? = some (some (.int j))) (ha : a ρ n = some (.int k, m)) : sAug i fAddI a ρ n = some (.next (ρ.set i (some (.int (j + k)))), m) := by
  unfold sAug Mb
  rw [eVar_e h]
  simp only [ha, Mo, fAddI, Option.map_some]
  rfl
theorem add_lst (h : xs.length + ys.length ≤ 1000000) : fAdd (.lst xs) (.lst ys) = some (.lst (xs ++ ys)) := by
  show szl _ _ = _; unfold szl; rw [if_pos (by rw [PySem.sizeLine_eq]; omega)]
theorem add_tup (h : xs.length + ys.length ≤ 1000000) : fAdd (.tup xs) (.tup ys) = some (.tup (xs ++ ys)) := by
  show szl _ _ = _; unfold szl; rw [if_pos (by rw [PySem.sizeLine_eq]; omega)]
theorem add_str {x y : Str} (h : x.length + y.length ≤ 1000000) : fAdd (.str x) (.str y) = some (.str (x ++ y)) := by
  show szl _ _ = _; unfold szl; rw [if_pos (by rw [PySem.sizeLine_eq]; omega)]
theorem zip_tup (h : xs.length ≤ 1000000) : fZip (.tup xs) (.tup ys) = some (prs xs ys) := by
  show szl _ _ = _; unfold szl; rw [if_pos (by rw [PySem.sizeLine_eq]; omega)]
theorem mod_i {i j : Int} (h : 0 < j) : fMod (.int i) (.int j) = some (.int (i % j)) := if_pos h
theorem div_i {i j : Int} (h : 0 < j ∧ j < 1073741824) : fDiv (.int i) (.int j) = some (.int (i / j)) := if_pos h
theorem vAn_t {b : Ed} (h : a ρ n = some (x, m)) (k : fTr x = some true) : vAn a b ρ n = b ρ m := by unfold vAn Mb; rw [h]; simp only [Mo, k, Option.map_some, if_true]
theorem vAn_f {b : Ed} (h : a ρ n = some (x, m)) (k : fTr x = some false) : vAn a b ρ n = some (x, m) := by unfold vAn Mb; rw [h]; simp only [Mo, k, Option.map_some, Bool.false_eq_true, if_false]; rfl
theorem vOr_f {b : Ed} (h : a ρ n = some (x, m)) (k : fTr x = some false) : vOr a b ρ n = b ρ m := by unfold vOr Mb; rw [h]; simp only [Mo, k, Option.map_some, Bool.false_eq_true, if_false]
theorem vOr_t {b : Ed} (h : a ρ n = some (x, m)) (k : fTr x = some true) : vOr a b ρ n = some (x, m) := by unfold vOr Mb; rw [h]; simp only [Mo, k, Option.map_some, if_true]; rfl
theorem vIf_t {c : Td} {b : Ed} (h : c ρ n = some (true, m)) : vIf c a b ρ n = a ρ m := by unfold vIf Mb; rw [h]; rfl
theorem vIf_f {c : Td} {b : Ed} (h : c ρ n = some (false, m)) : vIf c a b ρ n = b ρ m := by unfold vIf Mb; rw [h]; rfl
theorem tEq_t {b : Ed} {x y : Str} (h : a ρ n = some (.str x, m)) (k : b ρ m = some (.str y, m)) (e : x = y := by rfl) : trB (e2 fEq a b) ρ n = some (true, m) := trB_e (e2_e h k eq_str) (by show some (decide (x = y)) = _; rw [decide_eq_true e])
theorem tEq_f {b : Ed} {x y : Str} (h : a ρ n = some (.str x, m)) (k : b ρ m = some (.str y, m)) (e : ¬ x = y := by decide +kernel) : trB (e2 fEq a b) ρ n = some (false, m) := trB_e (e2_e h k eq_str) (by show some (decide (x = y)) = _; rw [decide_eq_false e])
theorem tNe_f {b : Ed} {x y : Str} (h : a ρ n = some (.str x, m)) (k : b ρ m = some (.str y, m)) (e : x = y := by rfl) : trB (e2 fNe a b) ρ n = some (false, m) := trB_e (e2_e h k ne_str) (by show some (!decide (x = y)) = _; rw [decide_eq_true e]; rfl)
theorem tNe_t {b : Ed} {x y : Str} (h : a ρ n = some (.str x, m)) (k : b ρ m = some (.str y, m)) (e : ¬ x = y := by decide +kernel) : trB (e2 fNe a b) ρ n = some (true, m) := trB_e (e2_e h k ne_str) (by show some (!decide (x = y)) = _; rw [decide_eq_false e]; rfl)
theorem tEqI_t {b : Ed} {x y : Int} (h : a ρ n = some (.int x, m)) (k : b ρ m = some (.int y, m)) (e : x = y) : trB (e2 fEq a b) ρ n = some (true, m) := trB_e (e2_e h k eq_int) (by show some (decide (x = y)) = _; rw [decide_eq_true e])
theorem tEqI_f {b : Ed} {x y : Int} (h : a ρ n = some (.int x, m)) (k : b ρ m = some (.int y, m)) (e : ¬ x = y) : trB (e2 fEq a b) ρ n = some (false, m) := trB_e (e2_e h k eq_int) (by show some (decide (x = y)) = _; rw [decide_eq_false e])
theorem eFl_e (h : a ρ n = some (d, m)) (k : d.flat = true) : eFl a ρ n = some (d, m) := by
  unfold eFl Mb
  rw [h]
  simp only [k, if_true]
  rfl
end
/-- a loop that goes to its end, by an invariant -/
theorem fM_inv {g : Gd} {b : Bd} (I : Nat → Sd → Nat → Prop) : ∀ (ds : List D) (i : Nat) (ρ : Sd) (n : Nat), I i ρ n → (∀ j d ρ n, ds[j]? = some d → I (i + j) ρ n → ∃ ρ1 ρ' n', g d ρ = some ρ1 ∧ b ρ1 n = some (.next ρ', n') ∧ I (i + j + 1) ρ' n') → ∃ ρ' n', fM g b ds ρ n = some (.next ρ', n') ∧ I (i + ds.length) ρ' n'
  | [], i, ρ, n, h, _ => ⟨ρ, n, rfl, h⟩
  | d :: r, i, ρ, n, h, hs => by
    obtain ⟨ρ1, ρ', n', h1, h2, h3⟩ := hs 0 d ρ n rfl h
    obtain ⟨ρ2, n2, h4, h5⟩ := fM_inv I r (i + 1) ρ' n' h3 fun j d ρ n hj hI => by
      have := hs (j + 1) d ρ n (by simpa using hj) (by rw [show i + (j + 1) = i + 1 + j by omega]; exact hI)
      rw [show i + (j + 1) + 1 = i + 1 + j + 1 by omega] at this
      exact this
    exact ⟨ρ2, n2, by rw [fM_next h1 h2]; exact h4, by rw [List.length_cons, show i + (r.length + 1) = i + 1 + r.length by omega]; exact h5⟩
/-- a comprehension with draws: each element by P -/
theorem lcM_inv {g : Gd} {te : Ed} {ρ : Sd} {α : Type} {f : α → D} {c : Nat} (P : D → Prop) : ∀ (xs : List α) (n : Nat), n + xs.length * c ≤ 2 ^ 40 → (∀ x ∈ xs, ∃ ρ1, g (f x) ρ = some ρ1 ∧ ∀ n, n + c ≤ 2 ^ 40 → ∃ y m, te ρ1 n = some (y, m) ∧ m ≤ n + c ∧ P y) →
    ∃ ys m, lcM g tY te ρ (xs.map f) n = some (ys, m) ∧ m ≤ n + xs.length * c ∧ ys.length = xs.length ∧ ∀ y ∈ ys, P y
  | [], n, _, _ => ⟨[], n, rfl, by simp, rfl, by simp⟩
  | x :: r, n, hn, h => by
    rw [List.length_cons, Nat.succ_mul] at hn
    obtain ⟨ρ1, h1, h2⟩ := h x (by simp)
    obtain ⟨y, m, h3, h4, h5⟩ := h2 n (by omega)
    obtain ⟨ys, m', h6, h7, h8, h9⟩ := lcM_inv P r m (by omega) fun z hz => h z (by simp [hz])
    refine ⟨y :: ys, m', lcM_cons h1 h3 h6, by rw [List.length_cons, Nat.succ_mul]; omega, by simp [h8], fun z hz => ?_⟩
    rcases List.mem_cons.mp hz with rfl | hz
    · exact h5
    · exact h9 z hz
/-! drawing: what a piece gives, within so many draws -/
def Dr {α : Type} (x : M α) (c : Nat) (Q : α → Prop) : Prop := ∀ n, n + c ≤ 2 ^ 40 → ∃ a m, x n = some (a, m) ∧ m ≤ n + c ∧ Q a
theorem Dr.bind {α β : Type} {x : M α} {f : α → M β} {c e : Nat} {Q : α → Prop} {R : β → Prop} (h : Dr x c Q) (k : ∀ a, Q a → Dr (f a) e R) : Dr (Mb x f) (c + e) R := fun n hn => by
  obtain ⟨a, m, h1, h2, h3⟩ := h n (by omega)
  obtain ⟨b, m', k1, k2, k3⟩ := k a h3 m (by omega)
  exact ⟨b, m', by rw [Mb_eq h1]; exact k1, by omega, k3⟩
theorem Dr.pure {α : Type} {a : α} {c : Nat} {Q : α → Prop} (h : Q a) : Dr (Mp a) c Q := fun n _ => ⟨a, n, rfl, by omega, h⟩
theorem Dr.mono {α : Type} {x : M α} {c e : Nat} {Q R : α → Prop} (h : Dr x c Q) (hc : c ≤ e) (k : ∀ a, Q a → R a) : Dr x e R := fun n hn => by
  obtain ⟨a, m, h1, h2, h3⟩ := h n (by omega)
  exact ⟨a, m, h1, by omega, k a h3⟩
theorem Dr.of {α : Type} {x : M α} {a : α} {c : Nat} {Q : α → Prop} (h : ∀ n, x n = some (a, n)) (q : Q a) : Dr x c Q := fun n _ => ⟨a, n, h n, by omega, q⟩
end Sh

set_option Elab.async false
set_option linter.all false
set_option maxRecDepth 100000
/-! unfinished things -/
namespace Sh
open PySem L2 Nf
inductive U where
  | name (x : Str) | skip | made (w : Str) (ps : List U)
mutual
def U.d : U → D
  | .name x => .tup [.str "name", .str x]
  | .skip => .tup [.str "skip"]
  | .made w ps => .tup [.str "made", .str w, .tup (U.dA ps)]
def U.dA : List U → List D
  | [] => []
  | u :: r => U.d u :: U.dA r
end
theorem U.dA_map : ∀ ps : List U, U.dA ps = ps.map U.d
  | [] => rfl
  | u :: r => by simp only [U.dA, List.map_cons, U.dA_map r]
theorem U.d_made (w : Str) (ps : List U) : (U.made w ps).d = .tup [.str "made", .str w, .tup (ps.map U.d)] := by simp only [U.d, U.dA_map]
theorem U.d_name (x : Str) : (U.name x).d = .tup [.str "name", .str x] := by simp only [U.d]
theorem U.d_skip : U.skip.d = .tup [.str "skip"] := by simp only [U.d]
def U.hd : U → Str
  | .name _ => "name"
  | .skip => "skip"
  | .made _ _ => "made"
abbrev okS (x : Str) : Prop := PyData.strOk x = true
def U.ok : Nat → U → Prop
  | 0, _ => False
  | _ + 1, .name x => okS x
  | _ + 1, .skip => True
  | n + 1, .made w ps => okS w ∧ ps.length ≤ 3 ∧ ∀ p ∈ ps, U.ok n p
theorem U.ok_mono : ∀ {n m : Nat} {u : U}, n ≤ m → U.ok n u → U.ok m u
  | 0, _, _, _, h => h.elim
  | n + 1, 0, _, hn, _ => by omega
  | n + 1, m + 1, .name x, _, h => h
  | n + 1, m + 1, .skip, _, h => h
  | n + 1, m + 1, .made w ps, hn, h => ⟨h.1, h.2.1, fun p hp => U.ok_mono (by omega) (h.2.2 p hp)⟩
/-! laid as Python's data -/
mutual
def U.p : U → PyData
  | .name x => .tuple [.str "name", .str x]
  | .skip => .tuple [.str "skip"]
  | .made w ps => .tuple [.str "made", .str w, .tuple (U.pA ps)]
def U.pA : List U → List PyData
  | [] => []
  | u :: r => U.p u :: U.pA r
end
mutual
theorem U.py : ∀ u : U, u.d.py = some u.p
  | .name x => rfl
  | .skip => rfl
  | .made w ps => by
    simp only [U.d, D.py, D.pyA, U.pyA ps, U.p, Option.map_some]
theorem U.pyA : ∀ ps : List U, D.pyA (U.dA ps) = some (U.pA ps)
  | [] => rfl
  | u :: r => by simp only [U.dA, D.pyA, U.py u, U.pyA r, U.pA]
end
theorem lit_ok : okS "name" ∧ okS "skip" ∧ okS "made" := by decide +kernel
theorem U.lay : ∀ {n : Nat} {u : U}, U.ok n u → u.p.canLay0 = true ∧ u.p.depth ≤ 2 * n
  | 0, _, h => h.elim
  | n + 1, .name x, h => by
    have hx : PyData.strOk x = true := h
    have := lit_ok.1
    simp only [U.p, PyData.canLay0, PyData.canLayAll0, PyData.depth, PyData.depthAll, this, hx]
    exact ⟨rfl, by omega⟩
  | n + 1, .skip, _ => by
    have := lit_ok.2.1
    simp only [U.p, PyData.canLay0, PyData.canLayAll0, PyData.depth, PyData.depthAll, this]
    exact ⟨rfl, by omega⟩
  | n + 1, .made w ps, h => by
    have hw : PyData.strOk w = true := h.1
    have key : ∀ qs : List U, (∀ p ∈ qs, U.ok n p) → PyData.canLayAll0 (U.pA qs) = true ∧ PyData.depthAll (U.pA qs) ≤ 2 * n := by
      intro qs
      induction qs with
      | nil => intro _; simp [U.pA, PyData.canLayAll0, PyData.depthAll]
      | cons q r ih =>
        intro hq
        obtain ⟨a1, a2⟩ := U.lay (hq q (by simp))
        obtain ⟨b1, b2⟩ := ih fun p hp => hq p (by simp [hp])
        simp only [U.pA, PyData.canLayAll0, PyData.depthAll, a1, b1]
        exact ⟨rfl, by omega⟩
    obtain ⟨c1, c2⟩ := key ps h.2.2
    have := lit_ok.2.2
    simp only [U.p, PyData.canLay0, PyData.canLayAll0, PyData.depth, PyData.depthAll, this, hw, c1]
    exact ⟨rfl, by omega⟩
theorem U.shaped {n : Nat} {u : U} (h : U.ok n u) (hn : n ≤ 32) : SeqAt.shaped u.p = true := by
  obtain ⟨a, b⟩ := U.lay h
  unfold SeqAt.shaped
  rw [a, decide_eq_true (by omega)]
  rfl
/-- a name and another thing -/
def U.isNm (x : Str) : U → Bool
  | .name y => decide (x = y)
  | _ => false
def U.isSk : U → Bool
  | .skip => true
  | _ => false
theorem eqb_tup {x y : List D} {p q : PyData} (h1 : (D.tup x).py = some p) (h2 : (D.tup y).py = some q) (s1 : SeqAt.shaped p = true) (s2 : SeqAt.shaped q = true) : D.eqb (.tup x) (.tup y) = some (PyData.eqv p q) := by
  have e : D.eqb (.tup x) (.tup y) = (match (D.tup x).py, (D.tup y).py with
    | some p, some q => if SeqAt.shaped p = true ∧ SeqAt.shaped q = true then some (PyData.eqv p q) else none
    | _, _ => none) := rfl
  rw [e, h1, h2]
  show (if SeqAt.shaped p = true ∧ SeqAt.shaped q = true then some (PyData.eqv p q) else none) = _
  rw [if_pos ⟨s1, s2⟩]
theorem U.d_tup (u : U) : ∃ ds, u.d = .tup ds := by cases u <;> simp only [U.d] <;> exact ⟨_, rfl⟩
theorem U.eqb {n : Nat} {u v : U} (h : U.ok n u) (k : U.ok n v) (hn : n ≤ 32) : D.eqb u.d v.d = some (PyData.eqv u.p v.p) := by
  obtain ⟨x, hx⟩ := u.d_tup
  obtain ⟨y, hy⟩ := v.d_tup
  have e1 := u.py
  have e2 := v.py
  rw [hx] at e1 ⊢
  rw [hy] at e2 ⊢
  exact eqb_tup e1 e2 (U.shaped h hn) (U.shaped k hn)
theorem nm_eqv (x : Str) (v : U) : PyData.eqv (U.name x).p v.p = U.isNm x v := by
  cases v with
  | name y =>
    simp only [U.p, PyData.eqv, PyData.eqvAll, U.isNm, Bool.and_true, beq_self_eq_true, Bool.true_and]
    exact Bool.beq_eq_decide_eq x y
  | skip => simp [U.p, PyData.eqv, PyData.eqvAll, U.isNm]
  | made w ps => simp [U.p, PyData.eqv, PyData.eqvAll, U.isNm]
theorem sk_eqv (v : U) : PyData.eqv v.p U.skip.p = U.isSk v := by
  cases v with
  | name y => simp [U.p, PyData.eqv, PyData.eqvAll, U.isSk]
  | skip => simp [U.p, PyData.eqv, PyData.eqvAll, U.isSk]
  | made w ps => simp [U.p, PyData.eqv, PyData.eqvAll, U.isSk]
theorem U.ix0 (u : U) : fIx u.d (.int 0) = some (.str u.hd) := by cases u <;> simp only [U.d] <;> rfl
theorem ix_made1 (w : Str) (ps : List U) : fIx (U.made w ps).d (.int 1) = some (.str w) := by simp only [U.d]; rfl
theorem ix_made2 (w : Str) (ps : List U) : fIx (U.made w ps).d (.int 2) = some (.tup (ps.map U.d)) := by rw [U.d_made]; rfl
/-! the verdict -/
mutual
def vf : U → U → Option Bool × Nat
  | .name x, v => (if U.isNm x v = true then some true else none, 0)
  | .made w ps, .made w' qs => if w = w' then (let r := vfA ps qs; (r.1, 1 + r.2)) else (some false, 1)
  | _, _ => (none, 0)
def vfA : List U → List U → Option Bool × Nat
  | p :: ps, q :: qs => match vf p q with
    | (some true, k) => (let r := vfA ps qs; (r.1, k + r.2))
    | o => o
  | _, _ => (some true, 0)
end
def vS : List (U × U) → Option Bool × Nat
  | [] => (some true, 0)
  | p :: r => match vf p.1 p.2 with
    | (some true, k) => (let s := vS r; (s.1, k + s.2))
    | o => o
theorem vfA_zip : ∀ (ps qs : List U), vfA ps qs = vS (ps.zip qs)
  | [], _ => by simp [vfA, vS]
  | _ :: _, [] => by simp [vfA, vS]
  | p :: ps, q :: qs => by
    rw [List.zip_cons_cons]
    simp only [vfA, vS]
    rw [vfA_zip ps qs]
theorem vS_app : ∀ (a b : List (U × U)), vS (a ++ b) = match vS a with
    | (some true, k) => ((vS b).1, k + (vS b).2)
    | o => o
  | [], b => by simp [vS]
  | p :: r, b => by
    simp only [List.cons_append, vS]
    rw [vS_app r b]
    rcases vf p.1 p.2 with ⟨o, k⟩
    match o with
    | none => rfl
    | some false => rfl
    | some true =>
      dsimp only
      rcases vS r with ⟨o2, k2⟩
      match o2 with
      | none => rfl
      | some false => rfl
      | some true => simp [Nat.add_assoc]
def vd : Option Bool → D
  | none => .non
  | some true => .tup [.str "made", .str "yes", .tup []]
  | some false => .tup [.str "made", .str "no", .tup []]
def prD (p : U × U) : D := .tup [p.1.d, p.2.d]
/-! how many nodes -/
mutual
def U.sz : U → Nat
  | .name _ => 1
  | .skip => 1
  | .made _ ps => 1 + U.szA ps
def U.szA : List U → Nat
  | [] => 0
  | u :: r => U.sz u + U.szA r
end
theorem U.sz_pos (u : U) : 0 < u.sz := by cases u <;> simp only [U.sz] <;> omega
theorem U.sz_le : ∀ {n : Nat} {u : U}, U.ok n u → u.sz ≤ 4 ^ n
  | 0, _, h => h.elim
  | n + 1, .name x, _ => by simp only [U.sz]; exact Nat.pow_pos (by decide)
  | n + 1, .skip, _ => by simp only [U.sz]; exact Nat.pow_pos (by decide)
  | n + 1, .made w ps, h => by
    have key : ∀ qs : List U, (∀ p ∈ qs, U.ok n p) → U.szA qs ≤ qs.length * 4 ^ n := by
      intro qs
      induction qs with
      | nil => intro _; simp [U.szA]
      | cons q r ih =>
        intro hq
        have h1 := U.sz_le (hq q (by simp))
        have h2 := ih fun p hp => hq p (by simp [hp])
        simp only [U.szA, List.length_cons, Nat.succ_mul]
        omega
    have h1 := key ps h.2.2
    have h2 : ps.length * 4 ^ n ≤ 3 * 4 ^ n := Nat.mul_le_mul_right _ h.2.1
    have h4 : 0 < 4 ^ n := Nat.pow_pos (by decide)
    simp only [U.sz]
    rw [Nat.pow_succ]
    omega
def ssz (st : List (U × U)) : Nat := (st.map fun q => q.1.sz).sum
theorem ssz_zip : ∀ (ps qs : List U), ssz (ps.zip qs) ≤ U.szA ps
  | [], _ => by simp [ssz]
  | _ :: _, [] => by simp [ssz]
  | p :: ps, q :: qs => by
    have := ssz_zip ps qs
    simp only [ssz, List.zip_cons_cons, List.map_cons, List.sum_cons, U.szA] at this ⊢
    omega
theorem ssz_app (a b : List (U × U)) : ssz (a ++ b) = ssz a + ssz b := by simp [ssz]
theorem ssz_cons (a : U × U) (b : List (U × U)) : ssz (a :: b) = a.1.sz + ssz b := by simp [ssz]
theorem ssz_len : ∀ a : List (U × U), a.length ≤ ssz a
  | [] => Nat.zero_le _
  | p :: r => by
    have := ssz_len r
    have := p.1.sz_pos
    rw [ssz_cons, List.length_cons]
    omega
theorem prs_map (ps qs : List U) : prs (ps.map U.d) (qs.map U.d) = (ps.zip qs).map prD := by
  unfold prs
  rw [List.zip_map, List.map_map]
  rfl
/-! mades -/
mutual
def U.mds : U → Option Nat
  | .skip => none
  | .name _ => some 0
  | .made _ ps => (U.mdsA ps).map (1 + ·)
def U.mdsA : List U → Option Nat
  | [] => some 0
  | u :: r => match U.mds u, U.mdsA r with
    | some a, some b => some (a + b)
    | _, _ => none
end
mutual
theorem vf_self : ∀ (u : U) (k : Nat), u.mds = some k → vf u u = (some true, k)
  | .name x, k, h => by
    simp only [U.mds] at h
    cases h
    simp [vf, U.isNm]
  | .skip, k, h => by simp [U.mds] at h
  | .made w ps, k, h => by
    simp only [U.mds] at h
    obtain ⟨j, hj, rfl⟩ := Option.map_eq_some_iff.mp h
    simp only [vf, if_true, vfA_self ps j hj]
theorem vfA_self : ∀ (ps : List U) (k : Nat), U.mdsA ps = some k → vfA ps ps = (some true, k)
  | [], k, h => by simp only [U.mdsA] at h; cases h; simp [vfA]
  | u :: r, k, h => by
    simp only [U.mdsA] at h
    split at h
    · rename_i a b ha hb
      cases h
      simp only [vfA, vf_self u a ha, vfA_self r b hb]
    · cases h
end
end Sh

set_option Elab.async false
set_option linter.all false
set_option maxRecDepth 100000
namespace Nf
open PySem PySem.Spec PyProof.Rows L2 He
/-! ### the head's facts with one more test of the written part -/
abbrev AlB : Type := AlD × Bool
def obsB (n : Nat) (fa : List Fa) (fn : List DefD) (ex : PySem.W.Frag → Bool) (g : Addr → Option Obj) : AlB := (obsD fa fn (frG g (asD g n)), ex (frG g (asD g n)))
def hookB (n : Nat) (fa : List Fa) (fn : List DefD) (ex : PySem.W.Frag → Bool) : PySem.W.Hook where
  α := AlB
  obs := fun s => obsB n fa fn ex s.heap.get?
  val := fun _ => (valD fn, true)
  says := fun _ h => ∃ K : PySem.W.Frag, K.In h ∧ (SaysD fa fn K ∧ ex K = true)
  of := fun _ _ e => ⟨_, frG_in, congrArg Prod.fst e, congrArg Prod.snd e⟩
  keeps := fun _ _ _ y k => (let ⟨K, hK, c⟩ := y; ⟨K, PySem.W.Frag.In.keeps hK k, c⟩)
theorem obsB_eq {n : Nat} {fa : List Fa} {fn : List DefD} {ex : PySem.W.Frag → Bool} {g : Addr → Option Obj} {s : Shared} (h : ∀ a, g a = s.heap.get? a) : obsB n fa fn ex g = (hookB n fa fn ex).obs s := by
  have e : g = s.heap.get? := funext h
  subst e
  rfl
end Nf

set_option Elab.async false
set_option linter.all false
set_option maxRecDepth 100000
/-! a module's constants, looked up in the written part -/
namespace Sh
open PySem L2 Nf
mutual
def kV (K : PySem.W.Frag) : D → Value → Bool
  | .non, .none => true
  | .bl b, .bool c => decide (b = c)
  | .int i, .int j _ => decide (i = j)
  | .str x, .str y _ => decide (x = y) && decide (x.length ≤ sizeLine)
  | .tup ds, .ref a => match K.lookup a with
    | some ⟨.type c, _, .seq its _, _⟩ => decide (c = "tuple") && (decide (its.size ≤ sizeLine) && kA K ds its.toList)
    | _ => false
  | _, _ => false
def kA (K : PySem.W.Frag) : List D → List Value → Bool
  | [], [] => true
  | d :: ds, u :: us => kV K d u && kA K ds us
  | _, _ => false
end
mutual
theorem kV_ok {K : PySem.W.Frag} : ∀ {d : D} {u : Value}, kV K d u = true → ∃ v, RelV v u ∧ ∀ dk R, Fz ⟨K, dk⟩ R v d
  | .non, u, h => by
    cases u with
    | none => exact ⟨.non, rfl, fun _ _ => .non⟩
    | _ => simp [kV] at h
  | .bl b, u, h => by
    cases u with
    | bool c =>
      simp only [kV] at h
      have := of_decide_eq_true h; subst this
      exact ⟨.bl b, rfl, fun _ _ => .bl b⟩
    | _ => simp [kV] at h
  | .int i, u, h => by
    cases u with
    | int j t =>
      simp only [kV] at h
      have := of_decide_eq_true h; subst this
      exact ⟨.int i, ⟨t, rfl⟩, fun _ _ => .int i⟩
    | _ => simp [kV] at h
  | .str x, u, h => by
    cases u with
    | str y t =>
      simp only [kV] at h
      obtain ⟨h1, h2⟩ := Bool.and_eq_true_iff.mp h
      have := of_decide_eq_true h1; subst this
      exact ⟨.str x, ⟨t, rfl⟩, fun _ _ => .str x (of_decide_eq_true h2)⟩
    | _ => simp [kV] at h
  | .tup ds, u, h => by
    cases u with
    | ref a =>
      simp only [kV] at h
      cases q : K.lookup a with
      | none => rw [q] at h; cases h
      | some o =>
        obtain ⟨oc, od, dt, osl⟩ := o
        rw [q] at h
        cases oc with
        | type c =>
          cases dt with
          | seq its n =>
            obtain ⟨h1, h2⟩ := Bool.and_eq_true_iff.mp (show (decide (c = "tuple") && (decide (its.size ≤ sizeLine) && kA K ds its.toList)) = true from h)
            obtain ⟨h3, h4⟩ := Bool.and_eq_true_iff.mp h2
            obtain ⟨vs, r, f⟩ := kA_ok h4
            refine ⟨.ref a, rfl, fun dk R => .tup (.inr ⟨_, its, n, q, congrArg Value.type (of_decide_eq_true h1), rfl, of_decide_eq_true h3, r⟩) ?_ (f dk R)⟩
            rw [r.length, Array.length_toList]
            exact of_decide_eq_true h3
          | _ => cases h
        | _ => cases dt <;> cases h
    | _ => simp [kV] at h
  | .lst _, u, h => by cases u <;> simp [kV] at h
  | .dk _ _, u, h => by cases u <;> simp [kV] at h
  | .ins _ _ _, u, h => by cases u <;> simp [kV] at h
  | .deck, u, h => by cases u <;> simp [kV] at h
theorem kA_ok {K : PySem.W.Frag} : ∀ {ds : List D} {us : List Value}, kA K ds us = true → ∃ vs, Vals vs us ∧ ∀ dk R, FzA ⟨K, dk⟩ R vs ds
  | [], [], _ => ⟨[], .nil, fun _ _ => .nil⟩
  | [], _ :: _, h => by simp [kA] at h
  | _ :: _, [], h => by simp [kA] at h
  | d :: ds, u :: us, h => by
    simp only [kA] at h
    obtain ⟨h1, h2⟩ := Bool.and_eq_true_iff.mp h
    obtain ⟨v, r, f⟩ := kV_ok h1
    obtain ⟨vs, rs, fs⟩ := kA_ok h2
    exact ⟨v :: vs, .cons r rs, fun dk R => .cons (f dk R) (fs dk R)⟩
end
def gB (K : PySem.W.Frag) (x : Str) (d : D) : Bool := match PySem.W.nsIn K mainGlobals x with
  | some (some u) => kV K d u
  | _ => false
theorem gB_ok {K : PySem.W.Frag} {h : Heap} {mg : Str → Option Value} {x : Str} {d : D} (X : K.In h) (G : h.Ns mainGlobals mg) (c : gB K x d = true) : GlobD K mg x d := by
  unfold gB at c
  cases e : PySem.W.nsIn K mainGlobals x with
  | none => rw [e] at c; cases c
  | some o =>
    rw [e] at c
    cases o with
    | none => cases c
    | some u =>
      obtain ⟨v, r, f⟩ := kV_ok c
      exact ⟨v, u, PySem.W.mg_of X G e, r, f⟩
end Sh

set_option Elab.async false
set_option linter.all false
set_option maxRecDepth 100000
namespace Sh
open PySem L2 Nf
def top (i : Nat) : Stmt := PySem.Challenge.pw_needfill_k19_verdicts.main.body.getD i (.Pass ⟨0, 0, 0, 0⟩)
abbrev FnP (K : PySem.W.Frag) (x : Str) (st : Stmt) (f : Addr) (fd : FuncData) : Prop := FunD K x x (defArgs st) (defBody st) (defScope st) [] [] f fd
/-- a def that stands where it is called -/
structure Cal (K : PySem.W.Frag) (mg : Str → Option Value) (x : Str) (st : Stmt) (ps : List Str) (f : Addr) (fd : FuncData) : Prop where
  F : FnP K x st f fd
  m : mg x = some (.ref f)
  b : Binds K fd ps []
/-- the built-ins' names are free -/
structure Bt (mg : Str → Option Value) : Prop where
  t_len : mg "len" = none
  t_abs : mg "abs" = none
  t_range : mg "range" = none
  t_zip : mg "zip" = none
  t_isinstance : mg "isinstance" = none
  t_all : mg "all" = none
  t_tuple : mg "tuple" = none
  t_str : mg "str" = none
  t_int : mg "int" = none
  t_bool : mg "bool" = none
  t_enumerate : mg "enumerate" = none
  t_list : mg "list" = none
  t_dict : mg "dict" = none
  t_any : mg "any" = none
  t_sum : mg "sum" = none
  t_max : mg "max" = none
  t_min : mg "min" = none
end Sh


set_option Elab.async false
set_option linter.all false
set_option maxRecDepth 100000
/-! the deck of the later laws -/
namespace Sh
open PySem L2 Nf
def aG (cs : List Int) (i : Int) : Int := (L2.atI cs i).getD 0
theorem aG_at {cs : List Int} {i : Int} (h0 : 0 ≤ i) (h1 : i < cs.length) : L2.atI (cs.map V.int) i = some (.int (aG cs i)) ∧ aG cs i ∈ cs := by
  have hk : i.toNat < cs.length := by omega
  have e : L2.atI cs i = some cs[i.toNat] := by
    unfold L2.atI ixN
    rw [if_pos h0, if_pos h1]
    exact List.getElem?_eq_getElem hk
  have e2 : aG cs i = cs[i.toNat] := by unfold aG; rw [e]; rfl
  refine ⟨?_, by rw [e2]; exact List.getElem_mem hk⟩
  rw [e2]
  exact at_of (j := i.toNat) (by omega) (by rw [List.getElem?_map, List.getElem?_eq_getElem hk]; rfl)
def prm : List Int := [2147483629, 2147483587, 2147483579, 2147483563, 2147483549, 2147483543, 2147483497]
def nxV (cs : List Int) (m : Nat) (rs : List Int) : Int :=
  if 0 < aG rs ((m : Int) % cs.length) then aG rs ((m : Int) % cs.length) % 1000 else
    ((aG cs ((m : Int) % cs.length) % 2147483647 + 69621 * m + 7919 * (aG cs (((m : Int) % cs.length * ((m : Int) % cs.length) + m + 1) % cs.length) % 1000003) + 91193) ^ (3 : Int).toNat % aG prm ((m : Int) % 7) + 7907 * m) ^ (2 : Int).toNat % 2147483477 / 1009 % 1000
def nxR (cs : List Int) (m : Nat) (rs : List Int) : List Int :=
  if 0 < aG rs ((m : Int) % cs.length) then rs.set ((m : Int) % cs.length).toNat (aG rs ((m : Int) % cs.length) / 1000) else rs
structure DkA (H : Hp) (d g c : Addr) (cs : List Int) (m : Nat) (rs : List Int) : Prop where
  ne1 : d ≠ g
  ne2 : d ≠ c
  ne3 : g ≠ c
  hd : H d = some (.lst [.ref g, .int m, .ref c])
  hg : H g = some (.lst (cs.map V.int))
  hc : H c = some (.lst (rs.map V.int))
  l0 : 0 < cs.length
  l1 : cs.length ≤ 64
  le : rs.length = cs.length
  pos : ∀ x ∈ rs, 0 ≤ x
theorem nxV_range {cs : List Int} {m : Nat} {rs : List Int} : 0 ≤ nxV cs m rs ∧ nxV cs m rs < 1000 := by
  unfold nxV
  split
  · exact mod_range (by decide)
  · exact mod_range (by decide)
theorem nxR_pos {cs : List Int} {m : Nat} {rs : List Int} (h : ∀ x ∈ rs, 0 ≤ x) : ∀ x ∈ nxR cs m rs, 0 ≤ x := by
  unfold nxR
  split
  · intro x hx
    rcases List.mem_or_eq_of_mem_set hx with q | q
    · exact h x q
    · rw [q]; exact Int.ediv_nonneg (Int.le_of_lt (by assumption)) (by decide)
  · exact h
theorem nxR_len {cs : List Int} {m : Nat} {rs : List Int} : (nxR cs m rs).length = rs.length := by
  unfold nxR
  split
  · rw [List.length_set]
  · rfl
section
variable {P : Program} {w : World} {K : PySem.W.Frag} {mg : Str → Option Value} {base : Heap} {a_next a_deck : Addr} {d_next d_deck : FuncData}
abbrev s_next : Stmt := top 6
abbrev N_next : List Str := ["_law_deck_here", "_law_cells", "_law_many", "_law_rest", "_law_at", "_law_figures", "_law_primes", "_law_other", "_law_mixed"]
abbrev P_next : List Str := ["_law_deck_here"]
theorem sc_next : FnScope N_next P_next (defScope s_next) := ⟨rfl, rfl, rfl, by decide +kernel, rfl, by decide +kernel, by decide +kernel⟩
def spNext2 : Sp := fun vs H Q _ => ∃ (d g c : Addr) (cs : List Int) (m : Nat) (rs : List Int), vs = [.ref d] ∧ DkA H d g c cs m rs ∧ m < 2 ^ 40 ∧
  ∀ H', DkA H' d g c cs (m + 1) (nxR cs m rs) → Keep [d, g, c] H H' → Q (.int (nxV cs m rs)) H'
theorem ok_next (T : Bt mg) (C_next : Cal K mg "_law_next" s_next P_next a_next d_next) : FnOk P w K mg base CX0 1 a_next d_next P_next spNext2 := by
  refine C_next.F.ok sc_next (fun vs H Q E h => ?_) (fun cdv A outer s H vs Q E hr h => ?_)
  · obtain ⟨d, g, c, cs, m, rs, rfl, _⟩ := h
    rfl
  obtain ⟨d, g, c, cs, m, rs, rfl, D, hm, q⟩ := h
  refine ⟨_, PSs.nox (pss_cons (ps_asg (pv 0) (pg_lst (by rfl) (pgs_cons (pg_name (i := 1) sc_next.nd rfl (Or.inl rfl)) (pgs_cons (pg_name (i := 2) sc_next.nd rfl (Or.inl rfl)) (pgs_cons (pg_name (i := 3) sc_next.nd rfl (Or.inl rfl)) pgs_nil)))))
    (pss_cons (ps_set (i := 4) sc_next.nd rfl (Or.inl rfl) (pe_op op_mod (pv 2) (pe_callB call_len_seq (by rfl) T.t_len (by decide +kernel) (pa_cons (pv 1) pa_nil))))
    (pss_cons (ps_asg (pe_op op_add (pv 2) pe_int) (pg_sub (pv 0) pe_int set_list))
    (pss_cons (ps_if (pt_cmpR op_gt (pe_ix ix_list (pv 3) (pv 4) (fun _ _ => rfl)) pe_int (nomark _)) (pss_cons (ps_set (i := 5) sc_next.nd rfl (Or.inl rfl) (pe_op op_mod (pe_ix ix_list (pv 3) (pv 4) (fun _ _ => rfl)) pe_int))
    (pss_cons (ps_asg (pe_op op_fdiv (pe_ix ix_list (pv 3) (pv 4) (fun _ _ => rfl)) pe_int) (pg_sub (pv 3) (pv 4) set_list))
    (pss_one (ps_ret (pv 5))))) pss_nil)
    (pss_cons (ps_set (i := 6) sc_next.nd rfl (Or.inl rfl) (pe_lst (pa_cons pe_int (pa_cons pe_int (pa_cons pe_int (pa_cons pe_int (pa_cons pe_int (pa_cons pe_int (pa_cons pe_int pa_nil)))))))))
    (pss_cons (ps_set (i := 7) sc_next.nd rfl (Or.inl rfl) (pe_op op_mod (pe_ix ix_list (pv 1) (pe_op op_mod (pe_op op_add (pe_op op_add (pe_op op_mul (pv 4) (pv 4)) (pv 2)) pe_int) (pe_callB call_len_seq (by rfl) T.t_len (by decide +kernel) (pa_cons (pv 1) pa_nil))) (fun _ _ => rfl)) pe_int))
    (pss_cons (ps_set (i := 8) sc_next.nd rfl (Or.inl rfl) (pe_op op_add (pe_op op_add (pe_op op_add (pe_op op_mod (pe_ix ix_list (pv 1) (pv 4) (fun _ _ => rfl)) pe_int) (pe_op op_mul pe_int (pv 2))) (pe_op op_mul pe_int (pv 7))) pe_int))
    (pss_cons (ps_set (i := 8) sc_next.nd rfl (Or.inl rfl) (pe_op op_mod (pe_op op_pow (pv 8) pe_int) (pe_ix ix_list (pv 6) (pe_op op_mod (pv 2) pe_int) (fun _ _ => rfl))))
    (pss_one (ps_ret (pe_op op_mod (pe_op op_fdiv (pe_op op_mod (pe_op op_pow (pe_op op_add (pv 8) (pe_op op_mul pe_int (pv 2))) pe_int) pe_int) pe_int) pe_int))))))))))), ?_⟩
  have hcl : (0 : Int) < (((cs.map V.int).length : Nat) : Int) := by rw [List.length_map]; have := D.l0; omega
  have hr1 := mod_range (k := (m : Int)) hcl
  refine ⟨_, rfl, d, _, rfl, SqL.of D.hd, rfl, _, _, rfl, _, _, rfl, _, _, rfl, rfl, ?_⟩
  refine ⟨_, rfl, _, rfl, g, _, rfl, .inl (SqL.of D.hg), _, _, rfl, rfl, hcl, ?_⟩
  refine ⟨_, rfl, _, _, rfl, rfl, _, rfl, d, _, _, 1, rfl, rfl, D.hd, rfl, ?_⟩
  have k1 : Keep [d, g, c] H (upd H d (.lst ([V.ref g, .int m, .ref c].set 1 (.int ((m : Int) + 1))))) := (Keep.refl _ _).mut (by simp)
  have h1 : upd H d (.lst ([V.ref g, .int m, .ref c].set 1 (.int ((m : Int) + 1)))) d = some (.lst [.ref g, .int ((m + 1 : Nat) : Int), .ref c]) := upd_same
  have h2 : upd H d (.lst ([V.ref g, .int m, .ref c].set 1 (.int ((m : Int) + 1)))) g = some (.lst (cs.map V.int)) := by rw [upd_ne (Ne.symm D.ne1)]; exact D.hg
  have h3 : upd H d (.lst ([V.ref g, .int m, .ref c].set 1 (.int ((m : Int) + 1)))) c = some (.lst (rs.map V.int)) := by rw [upd_ne (Ne.symm D.ne2)]; exact D.hc
  generalize upd H d (.lst ([V.ref g, .int m, .ref c].set 1 (.int ((m : Int) + 1)))) = H1 at k1 h1 h2 h3
  rw [List.length_map] at hr1 hcl ⊢
  have ir : (m : Int) % ((cs.length : Nat) : Int) < rs.length := by rw [D.le]; exact hr1.2
  obtain ⟨a1, m1⟩ := aG_at hr1.1 ir
  obtain ⟨a2, m2⟩ := aG_at hr1.1 hr1.2
  refine ⟨_, rfl, _, rfl, c, _, _, _, rfl, rfl, SqL.of h3, a1, _, _, rfl, rfl, _, rfl, ?_⟩
  unfold nxV nxR at q
  by_cases hz : 0 < aG rs ((m : Int) % cs.length)
  · rw [if_pos hz, if_pos hz] at q
    refine ifT hz ?_
    refine ⟨_, rfl, _, rfl, c, _, _, _, rfl, rfl, SqL.of h3, a1, _, _, rfl, rfl, by show (0 : Int) < 1000; decide, ?_⟩
    refine ⟨_, rfl, _, rfl, c, _, _, _, rfl, rfl, SqL.of h3, a1, _, _, rfl, rfl, ⟨by decide, by decide⟩, _, rfl, _, rfl, c, _, _, ((m : Int) % cs.length).toNat, rfl, rfl, h3, ?_, ?_⟩
    · unfold ixN
      rw [if_pos hr1.1, if_pos (by rw [List.length_map]; exact ir)]
    · refine ⟨_, rfl, q _ ⟨D.ne1, D.ne2, D.ne3, ?_, ?_, ?_, D.l0, D.l1, by rw [List.length_set]; exact D.le, ?_⟩ (k1.mut (by simp))⟩
      · rw [upd_ne D.ne2]; exact h1
      · rw [upd_ne D.ne3]; exact h2
      · rw [upd_same, List.map_set]
      · have := nxR_pos (cs := cs) (m := m) D.pos
        unfold nxR at this
        rwa [if_pos hz] at this
  · rw [if_neg hz, if_neg hz] at q
    refine ifF hz ?_
    refine ⟨by show 7 ≤ sizeLine; decide, fun p hp => ?_⟩
    have k2 := k1.new hp (o := .lst (prm.map V.int))
    have n1 : d ≠ p := ne_of_none h1 hp
    have n2 : g ≠ p := ne_of_none h2 hp
    have n3 : c ≠ p := ne_of_none h3 hp
    have h1' : upd H1 p (.lst (prm.map V.int)) d = some (.lst [.ref g, .int ((m + 1 : Nat) : Int), .ref c]) := by rw [upd_ne n1]; exact h1
    have h2' : upd H1 p (.lst (prm.map V.int)) g = some (.lst (cs.map V.int)) := by rw [upd_ne n2]; exact h2
    have h3' : upd H1 p (.lst (prm.map V.int)) c = some (.lst (rs.map V.int)) := by rw [upd_ne n3]; exact h3
    have hp' : upd H1 p (.lst (prm.map V.int)) p = some (.lst (prm.map V.int)) := upd_same
    show _
    generalize hH : upd H1 p (.lst (prm.map V.int)) = H2 at k2 h1' h2' h3' hp'
    have hH' : upd H1 p (.lst [V.int 2147483629, .int 2147483587, .int 2147483579, .int 2147483563, .int 2147483549, .int 2147483543, .int 2147483497]) = H2 := hH
    rw [hH']
    have hat : ((m : Int) % cs.length) < 64 := by have := hr1.2; have := D.l1; omega
    have hr2 := mod_range (k := (m : Int) % cs.length * ((m : Int) % cs.length) + m + 1) hcl
    obtain ⟨a3, m3⟩ := aG_at (cs := cs) hr2.1 hr2.2
    have hr7 := mod_range (k := (m : Int)) (m := 7) (by decide)
    obtain ⟨a4, m4⟩ := aG_at (cs := prm) (i := (m : Int) % 7) hr7.1 (by show (m : Int) % 7 < 7; exact hr7.2)
    have hp4 : 2147483497 ≤ aG prm ((m : Int) % 7) ∧ aG prm ((m : Int) % 7) ≤ 2147483629 := by
      revert m4
      generalize aG prm ((m : Int) % 7) = z
      intro m4
      simp only [prm, List.mem_cons, List.not_mem_nil, or_false] at m4
      omega
    have b1 := mod_range (k := aG cs ((m : Int) % cs.length)) (m := 2147483647) (by decide)
    have b2 := mod_range (k := aG cs (((m : Int) % cs.length * ((m : Int) % cs.length) + m + 1) % cs.length)) (m := 1000003) (by decide)
    refine ⟨_, rfl, _, rfl, _, rfl, _, _, rfl, rfl, .inl ⟨by omega, by omega⟩, _, rfl, _, _, rfl, rfl, _, _, rfl, rfl, _, rfl, g, _, rfl, .inl (SqL.of h2'), _, _, rfl, rfl, by rw [List.length_map]; exact hcl, g, _, _, _, rfl, rfl, SqL.of h2', by rw [List.length_map]; exact a3, _, _, rfl, rfl, by show (0 : Int) < 1000003; decide, ?_⟩
    refine ⟨_, rfl, _, rfl, g, _, _, _, rfl, rfl, SqL.of h2', a2, _, _, rfl, rfl, by show (0 : Int) < 2147483647; decide, _, rfl, _, _, rfl, rfl, .inl ⟨by decide, by decide⟩, _, _, rfl, rfl, _, rfl, _, _, rfl, rfl, .inl ⟨by decide, by decide⟩, _, _, rfl, rfl, _, _, rfl, rfl, ?_⟩
    refine ⟨_, rfl, _, _, rfl, rfl, ⟨by decide, by decide, ?_⟩, _, rfl, _, rfl, _, _, rfl, rfl, by show (0 : Int) < 7; decide, p, _, _, _, rfl, rfl, SqL.of hp', a4, _, _, rfl, rfl, by omega, ?_⟩
    · revert b1 b2
      generalize aG cs ((m : Int) % cs.length) % 2147483647 = x
      generalize aG cs (((m : Int) % cs.length * ((m : Int) % cs.length) + m + 1) % cs.length) % 1000003 = y
      intro b1 b2
      omega
    · have b3 := mod_range (k := (aG cs ((m : Int) % cs.length) % 2147483647 + 69621 * m + 7919 * (aG cs (((m : Int) % cs.length * ((m : Int) % cs.length) + m + 1) % cs.length) % 1000003) + 91193) ^ (3 : Int).toNat) (m := aG prm ((m : Int) % 7)) (by omega)
      refine ⟨_, rfl, _, rfl, _, _, rfl, rfl, .inl ⟨by decide, by decide⟩, _, _, rfl, rfl, _, _, rfl, rfl, ⟨by decide, by decide, ?_⟩, _, _, rfl, rfl, by show (0 : Int) < 2147483477; decide, _, _, rfl, rfl, ⟨by decide, by decide⟩, _, _, rfl, rfl, by show (0 : Int) < 1000; decide, ?_⟩
      · revert b3
        generalize (aG cs ((m : Int) % cs.length) % 2147483647 + 69621 * m + 7919 * (aG cs (((m : Int) % cs.length * ((m : Int) % cs.length) + m + 1) % cs.length) % 1000003) + 91193) ^ (3 : Int).toNat % aG prm ((m : Int) % 7) = x
        intro b3
        omega
      · exact q _ ⟨D.ne1, D.ne2, D.ne3, h1', h2', h3', D.l0, D.l1, D.le, D.pos⟩ k2
end
end Sh


set_option Elab.async false
set_option linter.all false
set_option maxRecDepth 100000
namespace Sh
open PySem L2 Nf
/-! the deck as a world -/
def stp (cs rs0 : List Int) : Nat → List Int
  | 0 => rs0
  | n + 1 => nxR cs n (stp cs rs0 n)
def strm (cs rs0 : List Int) (n : Nat) : Int := nxV cs n (stp cs rs0 n)
theorem strm_range (cs rs0 : List Int) (n : Nat) : 0 ≤ strm cs rs0 n ∧ strm cs rs0 n < 1000 := nxV_range
def Wdk (d g c : Addr) (cs rs0 : List Int) : Wd where
  dom := [d, g, c]
  st := fun n H => DkA H d g c cs n (stp cs rs0 n)
  only := fun n H H' D e => ⟨D.ne1, D.ne2, D.ne3, (e d (by simp)).trans D.hd, (e g (by simp)).trans D.hg, (e c (by simp)).trans D.hc, D.l0, D.l1, D.le, D.pos⟩
  there := fun n H D a m => by
    simp only [List.mem_cons, List.not_mem_nil, or_false] at m
    rcases m with rfl | rfl | rfl
    · rw [D.hd]; exact fun z => nomatch z
    · rw [D.hg]; exact fun z => nomatch z
    · rw [D.hc]; exact fun z => nomatch z
def nxS (f : Nat → Int) : List D → M D
  | [.deck], n => if n < 2 ^ 40 then some (.int (f n), n + 1) else none
  | _, _ => none
section
variable {P : Program} {w : World} {K : PySem.W.Frag} {mg : Str → Option Value} {base : Heap} {a_next a_deck : Addr} {d_next d_deck : FuncData}
theorem ok_nextM {d g c : Addr} {cs rs0 : List Int} (G : FnOk P w K mg base CX0 1 a_next d_next P_next spNext2) : FnOk P w K mg base CX0 1 a_next d_next P_next (spM ⟨K, d⟩ (Wdk d g c cs rs0) (nxS (strm cs rs0))) :=
  G.imp fun vs H Q E ⟨R, ds, r, n, n', f, hp, e, q⟩ => by
    match ds, e with
    | [.deck], e =>
      obtain ⟨hn, e⟩ := ite_some e
      cases e
      obtain ⟨v, rfl, z⟩ := fzA1 f
      cases z
      refine ⟨d, g, c, cs, n, stp cs rs0 n, rfl, hp.wd, hn, fun H' D' k => q _ R H' ⟨fun a o e => ?_, hp.dj, hp.d0, D', k, Same.refl _, fun a e => .inl e⟩ (.int _)⟩
      refine k a o (hp.same _ _ e) fun m => ?_
      rw [hp.dj a m] at e; cases e
abbrev s_deck : Stmt := top 5
abbrev N_deck : List Str := ["_law_script", "_law_cells", "_law_cell"]
abbrev P_deck : List Str := ["_law_script"]
theorem sc_deck : FnScope N_deck P_deck (defScope s_deck) := ⟨rfl, rfl, rfl, by decide +kernel, rfl, by decide +kernel, by decide +kernel⟩
def spDeck2 (K : PySem.W.Frag) : Sp := fun vs H Q _ => ∃ (a : Addr) (ns : List Int), vs = [.ref a] ∧ SqL K H a (ns.map V.int) ∧ ns.length ≤ 63 ∧
  ∀ d g c cs rs H', DkA H' d g c cs 0 rs → Same H H' → H d = none → H g = none → H c = none → Q (.ref d) H'
theorem ok_deck (T : Bt mg) (C_deck : Cal K mg "_law_deck" s_deck P_deck a_deck d_deck) : FnOk P w K mg base CX0 1 a_deck d_deck P_deck (spDeck2 K) := by
  refine C_deck.F.ok sc_deck (fun vs H Q E h => ?_) (fun cdv A outer s H vs Q E hr h => ?_)
  · obtain ⟨a, ns, rfl, _⟩ := h
    rfl
  obtain ⟨a, ns, rfl, hS, h63, q⟩ := h
  refine ⟨_, PSs.nox (pss_cons (ps_set (i := 1) sc_deck.nd rfl (Or.inl rfl) (pe_op op_cat (pe_lc (own := [("_law_cell", 2)]) (g := gName 2) (tt := tYes) (by rfl) sc_deck.nd (pi_list (pe_slice sl_list (pv 0) po_none (po_some pe_int))) (blkOk_by (own := [("_law_cell", 2)]) (N := N_deck) (sc := defScope s_deck) (by decide +kernel)) (fun _ _ _ _ _ => (pg_name (i := 2) sc_deck.nd rfl (Or.inl rfl))) (fun _ _ _ _ _ => pts_nil) (fun _ _ _ _ _ => (pe_callB call_abs (by rfl) T.t_abs (by decide +kernel) (pa_cons (pv 2) pa_nil)))) (pe_op op_rep (pe_lst (pa_cons pe_int pa_nil)) (pe_callTy call_int1 (by rfl) T.t_int (by decide +kernel) (pa_cons (pe_cmpR op_eq (pe_callB call_len_seq (by rfl) T.t_len (by decide +kernel) (pa_cons (pv 0) pa_nil)) pe_int (nomark _)) pa_nil)))))
    (pss_one (ps_ret (pe_lst (pa_cons (pv 1) (pa_cons pe_int (pa_cons (pe_lc (own := [("_law_cell", 2)]) (g := gName 2) (tt := tYes) (by rfl) sc_deck.nd (pi_list (pv 1)) (blkOk_by (own := [("_law_cell", 2)]) (N := N_deck) (sc := defScope s_deck) (by decide +kernel)) (fun _ _ _ _ _ => (pg_name (i := 2) sc_deck.nd rfl (Or.inl rfl))) (fun _ _ _ _ _ => pts_nil) (fun _ _ _ _ _ => (pe_op op_mul (pv 2) (pe_callTy call_int1 (by rfl) T.t_int (by decide +kernel) (pa_cons (pe_cmpR op_ge (pv 2) (pe_op op_pow pe_int pe_int) (nomark _)) pa_nil))))) pa_nil))))))), ?_⟩
  have hl : (ns.map V.int).length = ns.length := List.length_map _
  refine ⟨_, rfl, _, rfl, a, _, rfl, hS, fun p hp => ?_⟩
  have ecut : cutV (ns.map V.int) none (some 63) = ns.map V.int := by
    show ((ns.map V.int).drop 0).take ((HT.sIx (ns.map V.int).length (ns.map V.int).length (some ((63 : Nat) : Int))) - 0) = _
    rw [HT.sIx_nat, hl, List.drop_zero, Nat.sub_zero, Nat.min_eq_right h63]
    exact List.take_of_length_le (by rw [hl]; exact Nat.le_refl _)
  rw [ecut]
  have S1 := same_new hp (.lst (ns.map V.int))
  have e1 : upd H p (.lst (ns.map V.int)) p = some (.lst (ns.map V.int)) := upd_same
  generalize upd H p (.lst (ns.map V.int)) = H1 at S1 e1
  refine ⟨p, rfl, ⟨_, SqL.of e1⟩, fun Z hZ => ?_⟩
  have hZ0 : H Z = none := S1.free hZ
  refine lc_list (xs := ns.map V.int) (fun i H2 => Same H1 H2 ∧ H2 Z = some (.lst (((ns.map fun n => if n < 0 then -n else n).take i).map V.int))) ?_ ?_ ?_ ?_
  · exact ⟨same_new hZ _, upd_same⟩
  · rintro i H2 _ ⟨S2, _⟩
    exact SqL.of (S2 _ _ e1)
  · rintro i x H2 hx ⟨S2, e2⟩
    rw [List.getElem?_map] at hx
    obtain ⟨n, hn, rfl⟩ := Option.map_eq_some_iff.mp hx
    have hi : i < ns.length := (List.getElem?_eq_some_iff.mp hn).1
    refine ⟨rfl, yes_if ?_⟩
    refine ⟨_, rfl, n, rfl, _, e2, ?_, S2.mutN hZ, ?_⟩
    · rw [List.length_map, List.length_take]
      have : ns.length ≤ 63 := h63
      rw [PySem.sizeLine_eq]; omega
    · rw [upd_same, List.take_add_one, List.getElem?_map, hn, List.map_append]
      rfl
  · rintro H2 ⟨S2, e2⟩
    rw [hl, List.take_of_length_le (by rw [List.length_map]; exact Nat.le_refl _)] at e2
    have S02 := S1.trans S2
    refine ⟨by show 1 ≤ sizeLine; decide, fun p2 hp2 => ?_⟩
    have S3 := S02.new hp2 (o := .lst [.int 0])
    have e3 := same_new hp2 (.lst [V.int 0]) _ _ e2
    have e4 : upd H2 p2 (.lst [.int 0]) p2 = some (.lst [.int 0]) := upd_same
    generalize upd H2 p2 (.lst [V.int 0]) = H3 at S3 e3 e4
    refine ⟨_, rfl, a, _, rfl, .inl (S3.seq hS), rfl, .inr ⟨_, rfl, p2, _, _, rfl, rfl, e4, ?_, ?_, ?_, fun p3 hp3 => ?_⟩⟩
    · split <;> decide
    · split <;> decide
    · split <;> decide
    · have S4 := S3.new hp3 (o := .lst (List.replicate (if decide (V.int ((ns.map V.int).length : Nat) = V.int 0) = true then (1 : Int) else 0).toNat [V.int 0]).flatten)
      have e5 := same_new hp3 (.lst (List.replicate (if decide (V.int ((ns.map V.int).length : Nat) = V.int 0) = true then (1 : Int) else 0).toNat [V.int 0]).flatten) _ _ e3
      obtain ⟨zs, hzs, hz0, hzl⟩ : ∃ zs : List Int, (List.replicate (if decide (V.int ((ns.map V.int).length : Nat) = V.int 0) = true then (1 : Int) else 0).toNat [V.int 0]).flatten = zs.map V.int ∧ (∀ x ∈ zs, 0 ≤ x) ∧ zs.length ≤ 1 ∧ 0 < ((ns.map fun n => if n < 0 then -n else n) ++ zs).length := by
        by_cases hn : ns.length = 0
        · refine ⟨[0], ?_, by simp, by simp, by simp⟩
          rw [if_pos (by rw [hl, hn]; decide)]; rfl
        · refine ⟨[], ?_, by simp, by simp, by simp; omega⟩
          rw [if_neg (fun z => by have z2 := V.int.inj (of_decide_eq_true z); rw [hl] at z2; omega)]; rfl
      rw [hzs] at S4 e5 ⊢
      have e6 : upd H3 p3 (.lst (zs.map V.int)) p3 = some (.lst (zs.map V.int)) := upd_same
      generalize upd H3 p3 (.lst (zs.map V.int)) = H4 at S4 e5 e6
      refine ⟨Z, p3, _, _, rfl, rfl, e5, e6, ?_, fun p4 hp4 => ?_⟩
      · simp only [List.length_map]
        rw [PySem.sizeLine_eq]; have := hzl.1; omega
      · rw [← List.map_append]
        have hcs : ((ns.map fun n => if n < 0 then -n else n) ++ zs).length ≤ 64 := by
          rw [List.length_append, List.length_map]; have := hzl.1; omega
        have hpos : ∀ x ∈ (ns.map fun n => if n < 0 then -n else n) ++ zs, 0 ≤ x := fun x hx => by
          rcases List.mem_append.mp hx with hx | hx
          · obtain ⟨n, _, rfl⟩ := List.mem_map.mp hx
            show 0 ≤ (if n < 0 then -n else n)
            split <;> omega
          · exact hz0 x hx
        have hlen := hzl.2
        generalize (ns.map fun n => if n < 0 then -n else n) ++ zs = cs at hcs hpos hlen
        have S5 := S4.new hp4 (o := .lst (cs.map V.int))
        have e7 : upd H4 p4 (.lst (cs.map V.int)) p4 = some (.lst (cs.map V.int)) := upd_same
        have hp40 : H p4 = none := S4.free hp4
        generalize upd H4 p4 (.lst (cs.map V.int)) = H5 at S5 e7
        refine ⟨_, rfl, _, rfl, p4, rfl, ⟨_, SqL.of e7⟩, fun Y hY => ?_⟩
        have hY0 : H Y = none := S5.free hY
        have hYp : p4 ≠ Y := ne_of_none e7 hY
        refine lc_list (xs := cs.map V.int) (fun i H2 => Same H5 H2 ∧ H2 Y = some (.lst (((cs.map fun n => n * (if decide ((10 : Int) ^ (18 : Int).toNat ≤ n) = true then 1 else 0)).take i).map V.int))) ?_ ?_ ?_ ?_
        · exact ⟨same_new hY _, upd_same⟩
        · rintro i H2 _ ⟨S2, _⟩
          exact SqL.of (S2 _ _ e7)
        · rintro i x H6 hx ⟨S6, e8⟩
          rw [List.getElem?_map] at hx
          obtain ⟨n, hn, rfl⟩ := Option.map_eq_some_iff.mp hx
          have hi : i < cs.length := (List.getElem?_eq_some_iff.mp hn).1
          refine ⟨rfl, yes_if ?_⟩
          refine ⟨_, rfl, _, rfl, _, _, rfl, rfl, ⟨by decide, by decide, by decide⟩, _, _, rfl, rfl, .inr ⟨_, rfl, _, _, rfl, rfl, .inr ?_, _, e8, ?_, S6.mutN hY, ?_⟩⟩
          · split <;> decide
          · rw [List.length_map, List.length_take, PySem.sizeLine_eq]; omega
          · rw [upd_same, List.take_add_one, List.getElem?_map, hn, List.map_append]
            rfl
        · rintro H6 ⟨S6, e8⟩
          rw [List.length_map, List.take_of_length_le (by rw [List.length_map]; exact Nat.le_refl _)] at e8
          refine ⟨by show 3 ≤ sizeLine; decide, fun d hd => ?_⟩
          have e9 := S6 _ _ e7
          have nd1 : d ≠ p4 := (ne_of_none e9 hd).symm
          have nd2 : d ≠ Y := (ne_of_none e8 hd).symm
          refine q d p4 Y cs _ _ ⟨nd1, nd2, hYp, upd_same, by rw [upd_ne (Ne.symm nd1)]; exact e9, by rw [upd_ne (Ne.symm nd2)]; exact e8, hlen, hcs, List.length_map _, ?_⟩ ((S5.trans S6).new hd) ((S5.trans S6).free hd) hp40 hY0
          intro x hx
          obtain ⟨n, hn, rfl⟩ := List.mem_map.mp hx
          exact Int.mul_nonneg (hpos n hn) (by split <;> decide)
end
end Sh


set_option Elab.async false
set_option linter.all false
set_option maxRecDepth 100000
namespace Sh
open PySem L2 Nf
variable {P : Program} {w : World} {K : PySem.W.Frag} {mg : Str → Option Value} {base : Heap} {dk : Addr} {W : Wd}
def k_YES : D := (.tup [(.str ("made" : Str)), (.str ("yes" : Str)), (.tup [])])
def k_NO : D := (.tup [(.str ("made" : Str)), (.str ("no" : Str)), (.tup [])])
abbrev s_verdict : Stmt := top 3
abbrev N_verdict : List Str := ["one", "other", "pairs", "waiting", "first", "second", "below"]
abbrev P_verdict : List Str := ["one", "other"]
theorem sc_verdict : FnScope N_verdict P_verdict (defScope s_verdict) := ⟨rfl, rfl, rfl, by decide +kernel, rfl, by decide +kernel, by decide +kernel⟩
def l1_verdict : Bd :=
  (bSeq (sPop 3 (gT (gsC (gN 4) (gsC (gN 5) gsN))))
  (sIf (tAn (trB (e2 fEq (e2 fIx (eVar 4) (eC (.int 0))) (eC (.str ("made" : Str))))) (trB (e2 fEq (e2 fIx (eVar 5) (eC (.int 0))) (eC (.str ("made" : Str)))))) (bSeq (sAug 2 fAddI (eC (.int 1)))
  (bSeq (sIf (trB (e2 fNe (e2 fIx (eVar 4) (eC (.int 1))) (e2 fIx (eVar 5) (eC (.int 1))))) (sRet (eTup (aCons (eC k_NO) (aCons (eVar 2) aNil)))) bNil)
  (bSeq (sSet 6 (e2 fLZ (e2 fIx (eVar 4) (eC (.int 2))) (e2 fIx (eVar 5) (eC (.int 2)))))
  (sExt 3 (e1 fRev (eVar 6)))))) (sIf (tOr' (trB (e2 fNe (e2 fIx (eVar 4) (eC (.int 0))) (eC (.str ("name" : Str))))) (trB (e2 fNe (eVar 4) (eVar 5)))) (sRet (eTup (aCons (eC .non) (aCons (eVar 2) aNil)))) bNil)))
def b_verdict : Bd :=
  (bSeq (sSet 2 (eC (.int 0)))
  (bSeq (sSet 3 (eLst (aCons (eTup (aCons (eVar 0) (aCons (eVar 1) aNil))) aNil)))
  (bSeq (sWh (trB (eVar 3)) (l1_verdict))
  (sRet (eTup (aCons (eC k_YES) (aCons (eVar 2) aNil)))))))
theorem ok_verdict {k : Nat} {a_verdict : Addr} {d_verdict : FuncData} (T : Bt mg) (C_verdict : Cal K mg "verdict" s_verdict P_verdict a_verdict d_verdict) (g_YES : GlobD K mg "YES" k_YES) (g_NO : GlobD K mg "NO" k_NO) :
    FnOk P w K mg base CX0 (k + 1) a_verdict d_verdict P_verdict (spM ⟨K, dk⟩ W (fnA 2 7 (b_verdict))) :=
  fn_ok [3] C_verdict.F sc_verdict rfl fun cdv A outer s H E R hr =>
    (db_cons (ds_set (i := 2) sc_verdict.nd rfl (Or.inl rfl) d_int)
    (db_cons (ds_setO (i := 3) sc_verdict.nd rfl (Or.inl rfl) (do_lst (da_cons (d_tup (da_cons (d_var (pv 0)) (da_cons (d_var (pv 1)) da_nil)) (aCons_len (aCons_len aNil_len))) da_nil) (aCons_len aNil_len)))
    (db_cons (ds_wh (dt_open (dt_tr (d_var (pv 3)))) (db_cons (ds_pop (pv 3) (dg_tup (dgs_cons (dg_name (pg_name (i := 4) sc_verdict.nd rfl (Or.inl rfl))) (dgs_cons (dg_name (pg_name (i := 5) sc_verdict.nd rfl (Or.inl rfl))) dgs_nil))))
    (db_one (ds_if (dw_pt (dw_and (dt_eq hr.units (d_ix (d_var (pv 4)) d_int) d_str) (dw_and1 (dt_eq hr.units (d_ix (d_var (pv 5)) d_int) d_str)))) (db_cons (ds_augI (i := 2) sc_verdict.nd rfl (Or.inl rfl) d_int)
    (db_cons (ds_if (dt_ne hr.units (d_ix (d_var (pv 4)) d_int) (d_ix (d_var (pv 5)) d_int)) (db_one (ds_ret (d_tup (da_cons (d_glob (by rfl) g_NO) (da_cons (d_var (pv 2)) da_nil)) (aCons_len (aCons_len aNil_len))))) db_nil)
    (db_cons (ds_set (i := 6) sc_verdict.nd rfl (Or.inl rfl) (d_lz (d_ix (d_var (pv 4)) d_int) (d_ix (d_var (pv 5)) d_int) (by rfl) T.t_list (by rfl) T.t_zip))
    (db_one (ds_ext (pv 3) (d_rev (d_var (pv 6)))))))) (db_one (ds_if (dw_pt (dw_or (dt_ne hr.units (d_ix (d_var (pv 4)) d_int) d_str) (dw_or1 (dt_ne hr.units (d_var (pv 4)) (d_var (pv 5)))))) (db_one (ds_ret (d_tup (da_cons d_non (da_cons (d_var (pv 2)) da_nil)) (aCons_len (aCons_len aNil_len))))) db_nil))))))
    (db_one (ds_ret (d_tup (da_cons (d_glob (by rfl) g_YES) (da_cons (d_var (pv 2)) da_nil)) (aCons_len (aCons_len aNil_len))))))))
abbrev s_word : Stmt := top 7
abbrev N_word : List Str := ["_law_sort", "_law_base", "_law_number", "_law_letters", "_law_more"]
abbrev P_word : List Str := ["_law_sort", "_law_base", "_law_number"]
theorem sc_word : FnScope N_word P_word (defScope s_word) := ⟨rfl, rfl, rfl, by decide +kernel, rfl, by decide +kernel, by decide +kernel⟩
def b_word : Bd :=
  (bSeq (sSet 3 (eC (.str ("abcdefghijklmnopqrstuvwxyz" : Str))))
  (bSeq (sSet 4 (e2 fMul (e2 fIx (eVar 3) (e2 fMod (e2 fDiv (eVar 1) (eC (.int 26))) (eC (.int 26)))) (e2 fMod (e2 fMul (eVar 2) (eVar 1)) (eC (.int 3)))))
  (sRet (e2 fAdd (e2 fAdd (eVar 0) (e2 fIx (eVar 3) (e2 fMod (e2 fAdd (eVar 1) (e2 fMul (eC (.int 5)) (eVar 2))) (eC (.int 26))))) (eVar 4)))))
theorem ok_word {k : Nat} {a_word : Addr} {d_word : FuncData} (T : Bt mg) (C_word : Cal K mg "_law_word" s_word P_word a_word d_word) :
    FnOk P w K mg base CX0 (k + 1) a_word d_word P_word (spM ⟨K, dk⟩ W (fnA 3 5 (b_word))) :=
  fn_ok [] C_word.F sc_word rfl fun cdv A outer s H E R hr =>
    (db_cons (ds_set (i := 3) sc_word.nd rfl (Or.inl rfl) d_str)
    (db_cons (ds_set (i := 4) sc_word.nd rfl (Or.inl rfl) (d_mul (d_ix (d_var (pv 3)) (d_mod (d_div (d_var (pv 1)) d_int) d_int)) (d_mod (d_mul (d_var (pv 2)) (d_var (pv 1))) d_int)))
    (db_one (ds_ret (d_add (d_add (d_var (pv 0)) (d_ix (d_var (pv 3)) (d_mod (d_add (d_var (pv 1)) (d_mul d_int (d_var (pv 2)))) d_int))) (d_var (pv 4)))))))
abbrev s_makers : Stmt := top 9
abbrev N_makers : List Str := ["_law_kinds_here", "_law_kind", "_law_name", "_law_makers_here"]
abbrev P_makers : List Str := ["_law_kinds_here", "_law_kind"]
theorem sc_makers : FnScope N_makers P_makers (defScope s_makers) := ⟨rfl, rfl, rfl, by decide +kernel, rfl, by decide +kernel, by decide +kernel⟩
def l1_makers : Bd :=
  (sIf (trB (e2 fEq (eVar 2) (eVar 1))) (sRet (eVar 3)) bNil)
def b_makers : Bd :=
  (bSeq (sFor (iSeq (eVar 0)) (gT (gsC (gN 2) (gsC (gN 3) gsN))) (l1_makers))
  (sRet (eTup (aCons (eTup (aCons (eC (.str ("yes" : Str))) (aCons (eTup aNil) aNil))) (aCons (eTup (aCons (eC (.str ("no" : Str))) (aCons (eTup aNil) aNil))) aNil)))))
theorem ok_makers {k : Nat} {a_makers : Addr} {d_makers : FuncData} (T : Bt mg) (C_makers : Cal K mg "_law_makers" s_makers P_makers a_makers d_makers) :
    FnOk P w K mg base CX0 (k + 1) a_makers d_makers P_makers (spM ⟨K, dk⟩ W (fnA 2 4 (b_makers))) :=
  fn_ok [] C_makers.F sc_makers rfl fun cdv A outer s H E R hr =>
    (db_cons (ds_for (di_seq (d_var (pv 0))) (dg_tup (dgs_cons (dg_name (pg_name (i := 2) sc_makers.nd rfl (Or.inl rfl))) (dgs_cons (dg_name (pg_name (i := 3) sc_makers.nd rfl (Or.inl rfl))) dgs_nil))) (db_one (ds_if (dt_eq hr.units (d_var (pv 2)) (d_var (pv 1))) (db_one (ds_ret (d_var (pv 3)))) db_nil)))
    (db_one (ds_ret (d_tup (da_cons (d_tup (da_cons d_str (da_cons (d_tup da_nil aNil_len) da_nil)) (aCons_len (aCons_len aNil_len))) (da_cons (d_tup (da_cons d_str (da_cons (d_tup da_nil aNil_len) da_nil)) (aCons_len (aCons_len aNil_len))) da_nil)) (aCons_len (aCons_len aNil_len))))))
abbrev s_same : Stmt := top 11
abbrev N_same : List Str := ["_law_found", "_law_due", "_law_one", "_law_other"]
abbrev P_same : List Str := ["_law_found", "_law_due"]
theorem sc_same : FnScope N_same P_same (defScope s_same) := ⟨rfl, rfl, rfl, by decide +kernel, rfl, by decide +kernel, by decide +kernel⟩
def b_same (c_same : List D → M D) : Bd :=
  (bSeq (sIf (trB (e1 (fIsi "tuple") (eVar 1))) (bSeq (sIf (tOr' (tNt (trB (e1 (fIsi "tuple") (eVar 0)))) (trB (e2 fNe (eF (f1 fLen) (aCons (eVar 0) aNil)) (eF (f1 fLen) (aCons (eVar 1) aNil))))) (sRet (eC (.bl false))) bNil)
  (sRet (eF (f1 fAll) (aCons (eLc (i2 fZip (eVar 0) (eVar 1)) (gT (gsC (gN 2) (gsC (gN 3) gsN))) tY (eCall c_same (aCons (eVar 2) (aCons (eVar 3) aNil))) [2, 3]) aNil)))) bNil)
  (bSeq (sIf (trB (e2 fIs (eVar 1) (eC .non))) (sRet (e2 fIs (eVar 0) (eC .non))) bNil)
  (bSeq (sIf (trB (e1 (fIsi "str") (eVar 1))) (sRet (vAn (e1 (fIsi "str") (eVar 0)) (e2 fEq (eVar 0) (eVar 1)))) bNil)
  (sRet (vAn (e1 (fIsi "int") (eVar 0)) (vAn (e1 fNot (e1 (fIsi "bool") (eVar 0))) (e2 fEq (eVar 0) (eVar 1))))))))
theorem ok_same {k : Nat} {a_same : Addr} {d_same : FuncData} {c_same : List D → M D} (T : Bt mg) (C_same : Cal K mg "_law_same" s_same P_same a_same d_same) (G_same : FnOk P w K mg base CX0 k a_same d_same P_same (spM ⟨K, dk⟩ W c_same)) :
    FnOk P w K mg base CX0 (k + 1) a_same d_same P_same (spM ⟨K, dk⟩ W (fnA 2 4 (b_same c_same))) :=
  fn_ok [] C_same.F sc_same rfl fun cdv A outer s H E R hr =>
    (db_cons (ds_if (dt_tr (d_isi (d_var (pv 1)) (pe_bltn (v := .ty "tuple") (by rfl) T.t_tuple (by decide +kernel) rfl) (by rfl) T.t_isinstance)) (db_cons (ds_if (dw_pt (dw_or (dt_not (dt_tr (d_isi (d_var (pv 0)) (pe_bltn (v := .ty "tuple") (by rfl) T.t_tuple (by decide +kernel) rfl) (by rfl) T.t_isinstance))) (dw_or1 (dt_ne hr.units (d_callB call_len (c_len rfl) (by rfl) T.t_len (by decide +kernel) (da_cons (d_var (pv 0)) da_nil)) (d_callB call_len (c_len rfl) (by rfl) T.t_len (by decide +kernel) (da_cons (d_var (pv 1)) da_nil)))))) (db_one (ds_ret d_bl)) db_nil)
    (db_one (ds_ret (d_callB (cr_all rfl) c_all (by rfl) T.t_all (by decide +kernel) (da_cons (d_lc (own := [("_law_one", 2), ("_law_other", 3)]) sc_same.nd (di_zip (d_var (pv 0)) (d_var (pv 1)) (by rfl) T.t_zip) (blkOk_by (own := [("_law_one", 2), ("_law_other", 3)]) (N := N_same) (sc := defScope s_same) (by decide +kernel)) (fun _ _ _ _ _ => (dg_tup (dgs_cons (dg_name (pg_name (i := 2) sc_same.nd rfl (Or.inl rfl))) (dgs_cons (dg_name (pg_name (i := 3) sc_same.nd rfl (Or.inl rfl))) dgs_nil)))) (fun _ _ _ _ _ => dts_nil) (fun _ _ _ _ _ => (d_call G_same (hr.mono (by omega)) (by rfl) C_same.m C_same.F.kp C_same.b (da_cons (d_var (pv 2)) (da_cons (d_var (pv 3)) da_nil))))) da_nil))))) db_nil)
    (db_cons (ds_if (dt_is (d_var (pv 1)) d_non) (db_one (ds_ret (d_is (d_var (pv 0)) d_non))) db_nil)
    (db_cons (ds_if (dt_tr (d_isi (d_var (pv 1)) (pe_bltn (v := .ty "str") (by rfl) T.t_str (by decide +kernel) rfl) (by rfl) T.t_isinstance)) (db_one (ds_ret (d_and (d_isi (d_var (pv 0)) (pe_bltn (v := .ty "str") (by rfl) T.t_str (by decide +kernel) rfl) (by rfl) T.t_isinstance) (d_one (d_eq hr.units (d_var (pv 0)) (d_var (pv 1))))))) db_nil)
    (db_one (ds_ret (d_and (d_isi (d_var (pv 0)) (pe_bltn (v := .ty "int") (by rfl) T.t_int (by decide +kernel) rfl) (by rfl) T.t_isinstance) (d_and (d_not (d_isi (d_var (pv 0)) (pe_bltn (v := .ty "bool") (by rfl) T.t_bool (by decide +kernel) rfl) (by rfl) T.t_isinstance)) (d_one (d_eq hr.units (d_var (pv 0)) (d_var (pv 1)))))))))))
abbrev s_l_verdict : Stmt := top 12
abbrev N_l_verdict : List Str := ["_law_one", "_law_other", "_law_pairs", "_law_part", "_law_own", "_law_truth", "_law_more"]
abbrev P_l_verdict : List Str := ["_law_one", "_law_other"]
theorem sc_l_verdict : FnScope N_l_verdict P_l_verdict (defScope s_l_verdict) := ⟨rfl, rfl, rfl, by decide +kernel, rfl, by decide +kernel, by decide +kernel⟩
def l1_l_verdict (c_l_verdict : List D → M D) : Bd :=
  (bSeq (sAsg (eCall c_l_verdict (aCons (eVar 3) (aCons (eVar 4) aNil))) (gT (gsC (gN 5) (gsC (gN 6) gsN))))
  (bSeq (sSet 2 (e2 fAdd (eVar 2) (eVar 6)))
  (sIf (trB (e2 fNe (eVar 5) (eTup (aCons (eC (.str ("made" : Str))) (aCons (eC (.str ("yes" : Str))) (aCons (eTup aNil) aNil)))))) (sRet (eTup (aCons (eVar 5) (aCons (eVar 2) aNil)))) bNil)))
def b_l_verdict (c_l_verdict : List D → M D) : Bd :=
  (bSeq (sIf (tAn (trB (e2 fEq (e2 fIx (eVar 0) (eC (.int 0))) (eC (.str ("name" : Str))))) (trB (e2 fEq (eVar 0) (eVar 1)))) (sRet (eTup (aCons (eTup (aCons (eC (.str ("made" : Str))) (aCons (eC (.str ("yes" : Str))) (aCons (eTup aNil) aNil)))) (aCons (eC (.int 0)) aNil)))) bNil)
  (bSeq (sIf (tOr' (trB (e2 fNe (e2 fIx (eVar 0) (eC (.int 0))) (eC (.str ("made" : Str))))) (trB (e2 fNe (e2 fIx (eVar 1) (eC (.int 0))) (eC (.str ("made" : Str)))))) (sRet (eTup (aCons (eC .non) (aCons (eC (.int 0)) aNil)))) bNil)
  (bSeq (sIf (trB (e2 fNe (e2 fIx (eVar 0) (eC (.int 1))) (e2 fIx (eVar 1) (eC (.int 1))))) (sRet (eTup (aCons (eTup (aCons (eC (.str ("made" : Str))) (aCons (eC (.str ("no" : Str))) (aCons (eTup aNil) aNil)))) (aCons (eC (.int 1)) aNil)))) bNil)
  (bSeq (sSet 2 (eC (.int 1)))
  (bSeq (sFor (i2 fZip (e2 fIx (eVar 0) (eC (.int 2))) (e2 fIx (eVar 1) (eC (.int 2)))) (gT (gsC (gN 3) (gsC (gN 4) gsN))) (l1_l_verdict c_l_verdict))
  (sRet (eTup (aCons (eTup (aCons (eC (.str ("made" : Str))) (aCons (eC (.str ("yes" : Str))) (aCons (eTup aNil) aNil)))) (aCons (eVar 2) aNil)))))))))
theorem ok_l_verdict {k : Nat} {a_l_verdict : Addr} {d_l_verdict : FuncData} {c_l_verdict : List D → M D} (T : Bt mg) (C_l_verdict : Cal K mg "_law_verdict" s_l_verdict P_l_verdict a_l_verdict d_l_verdict) (G_l_verdict : FnOk P w K mg base CX0 k a_l_verdict d_l_verdict P_l_verdict (spM ⟨K, dk⟩ W c_l_verdict)) :
    FnOk P w K mg base CX0 (k + 1) a_l_verdict d_l_verdict P_l_verdict (spM ⟨K, dk⟩ W (fnA 2 7 (b_l_verdict c_l_verdict))) :=
  fn_ok [] C_l_verdict.F sc_l_verdict rfl fun cdv A outer s H E R hr =>
    (db_cons (ds_if (dw_pt (dw_and (dt_eq hr.units (d_ix (d_var (pv 0)) d_int) d_str) (dw_and1 (dt_eq hr.units (d_var (pv 0)) (d_var (pv 1)))))) (db_one (ds_ret (d_tup (da_cons (d_tup (da_cons d_str (da_cons d_str (da_cons (d_tup da_nil aNil_len) da_nil))) (aCons_len (aCons_len (aCons_len aNil_len)))) (da_cons d_int da_nil)) (aCons_len (aCons_len aNil_len))))) db_nil)
    (db_cons (ds_if (dw_pt (dw_or (dt_ne hr.units (d_ix (d_var (pv 0)) d_int) d_str) (dw_or1 (dt_ne hr.units (d_ix (d_var (pv 1)) d_int) d_str)))) (db_one (ds_ret (d_tup (da_cons d_non (da_cons d_int da_nil)) (aCons_len (aCons_len aNil_len))))) db_nil)
    (db_cons (ds_if (dt_ne hr.units (d_ix (d_var (pv 0)) d_int) (d_ix (d_var (pv 1)) d_int)) (db_one (ds_ret (d_tup (da_cons (d_tup (da_cons d_str (da_cons d_str (da_cons (d_tup da_nil aNil_len) da_nil))) (aCons_len (aCons_len (aCons_len aNil_len)))) (da_cons d_int da_nil)) (aCons_len (aCons_len aNil_len))))) db_nil)
    (db_cons (ds_set (i := 2) sc_l_verdict.nd rfl (Or.inl rfl) d_int)
    (db_cons (ds_for (di_zip (d_ix (d_var (pv 0)) d_int) (d_ix (d_var (pv 1)) d_int) (by rfl) T.t_zip) (dg_tup (dgs_cons (dg_name (pg_name (i := 3) sc_l_verdict.nd rfl (Or.inl rfl))) (dgs_cons (dg_name (pg_name (i := 4) sc_l_verdict.nd rfl (Or.inl rfl))) dgs_nil))) (db_cons (ds_asg (d_call G_l_verdict (hr.mono (by omega)) (by rfl) C_l_verdict.m C_l_verdict.F.kp C_l_verdict.b (da_cons (d_var (pv 3)) (da_cons (d_var (pv 4)) da_nil))) (dg_tup (dgs_cons (dg_name (pg_name (i := 5) sc_l_verdict.nd rfl (Or.inl rfl))) (dgs_cons (dg_name (pg_name (i := 6) sc_l_verdict.nd rfl (Or.inl rfl))) dgs_nil))))
    (db_cons (ds_set (i := 2) sc_l_verdict.nd rfl (Or.inl rfl) (d_add (d_var (pv 2)) (d_var (pv 6))))
    (db_one (ds_if (dt_ne hr.units (d_var (pv 5)) (d_tup (da_cons d_str (da_cons d_str (da_cons (d_tup da_nil aNil_len) da_nil))) (aCons_len (aCons_len (aCons_len aNil_len))))) (db_one (ds_ret (d_tup (da_cons (d_var (pv 5)) (da_cons (d_var (pv 2)) da_nil)) (aCons_len (aCons_len aNil_len))))) db_nil)))))
    (db_one (ds_ret (d_tup (da_cons (d_tup (da_cons d_str (da_cons d_str (da_cons (d_tup da_nil aNil_len) da_nil))) (aCons_len (aCons_len (aCons_len aNil_len)))) (da_cons (d_var (pv 2)) da_nil)) (aCons_len (aCons_len aNil_len))))))))))
abbrev s_mades : Stmt := top 14
abbrev N_mades : List Str := ["_law_thing", "_law_found", "_law_part"]
abbrev P_mades : List Str := ["_law_thing"]
theorem sc_mades : FnScope N_mades P_mades (defScope s_mades) := ⟨rfl, rfl, rfl, by decide +kernel, rfl, by decide +kernel, by decide +kernel⟩
def b_mades (c_mades : List D → M D) : Bd :=
  (bSeq (sIf (trB (e2 fEq (eVar 0) (eTup (aCons (eC (.str ("skip" : Str))) aNil)))) (sRet (eC .non)) bNil)
  (bSeq (sIf (trB (e2 fEq (e2 fIx (eVar 0) (eC (.int 0))) (eC (.str ("name" : Str))))) (sRet (eC (.int 0))) bNil)
  (bSeq (sSet 1 (eLc (iSeq (e2 fIx (eVar 0) (eC (.int 2)))) (gN 2) tY (eCall c_mades (aCons (eVar 2) aNil)) [2]))
  (bSeq (sIf (trB (e2 fIn (eC .non) (eVar 1))) (sRet (eC .non)) bNil)
  (sRet (e2 fAdd (eC (.int 1)) (eF (f1 fSum) (aCons (eVar 1) aNil))))))))
theorem ok_mades {k : Nat} {a_mades : Addr} {d_mades : FuncData} {c_mades : List D → M D} (T : Bt mg) (C_mades : Cal K mg "_law_mades" s_mades P_mades a_mades d_mades) (G_mades : FnOk P w K mg base CX0 k a_mades d_mades P_mades (spM ⟨K, dk⟩ W c_mades)) :
    FnOk P w K mg base CX0 (k + 1) a_mades d_mades P_mades (spM ⟨K, dk⟩ W (fnA 1 3 (b_mades c_mades))) :=
  fn_ok [] C_mades.F sc_mades rfl fun cdv A outer s H E R hr =>
    (db_cons (ds_if (dt_eq hr.units (d_var (pv 0)) (d_tup (da_cons d_str da_nil) (aCons_len aNil_len))) (db_one (ds_ret d_non)) db_nil)
    (db_cons (ds_if (dt_eq hr.units (d_ix (d_var (pv 0)) d_int) d_str) (db_one (ds_ret d_int)) db_nil)
    (db_cons (ds_setLc (i := 1) (own := [("_law_part", 2)]) sc_mades.nd rfl rfl (sw_true rfl rfl rfl (by decide +kernel)) (di_seq (d_ix (d_var (pv 0)) d_int)) (blkOk_by (own := [("_law_part", 2)]) (N := N_mades) (sc := defScope s_mades) (by decide +kernel)) (fun _ _ _ _ _ => (dg_name (pg_name (i := 2) sc_mades.nd rfl (Or.inl rfl)))) (fun _ _ _ _ _ => dts_nil) (fun _ _ _ _ _ => (d_call G_mades (hr.mono (by omega)) (by rfl) C_mades.m C_mades.F.kp C_mades.b (da_cons (d_var (pv 2)) da_nil))))
    (db_cons (ds_if (dt_in d_non (d_var (pv 1))) (db_one (ds_ret d_non)) db_nil)
    (db_one (ds_ret (d_add d_int (d_callB (cr_sum rfl) c_sum (by rfl) T.t_sum (by decide +kernel) (da_cons (d_var (pv 1)) da_nil)))))))))
end Sh


set_option Elab.async false
set_option linter.all false
set_option maxRecDepth 100000
namespace Sh
open PySem L2 Nf
variable {P : Program} {w : World} {K : PySem.W.Frag} {mg : Str → Option Value} {base : Heap} {dk : Addr} {W : Wd}
abbrev s_kinds : Stmt := top 8
abbrev N_kinds : List Str := ["_law_deck_here", "_law_number", "_law_base", "_law_kinds_here", "_law_found", "_law_many", "_law_kind", "_law_makers_here", "_law_draw", "_law_at", "_law_parts", "_law_part", "_law_other"]
abbrev P_kinds : List Str := ["_law_deck_here"]
theorem sc_kinds : FnScope N_kinds P_kinds (defScope s_kinds) := ⟨rfl, rfl, rfl, by decide +kernel, rfl, by decide +kernel, by decide +kernel⟩
def l1_kinds (c_next : List D → M D) : Bd :=
  (bSeq (sSet 12 (eCall c_next (aCons (eVar 0) aNil)))
  (sApp 10 (e2 fIx (e2 fAdd (e2 fAdd (eLst (aCons (eVar 6) (aCons (eVar 6) aNil))) (eVar 3)) (eLst (aCons (eC (.str ("truth" : Str))) aNil))) (e2 fMod (eVar 12) (e2 fAdd (eF (f1 fLen) (aCons (eVar 3) aNil)) (eC (.int 3)))))))
def l2_kinds (c_next : List D → M D) (c_word : List D → M D) : Bd :=
  (bSeq (sSet 10 (eLst aNil))
  (bSeq (sFor (i1 fR1 (e2 fMul (e2 fIx (eLst (aCons (eC (.int 0)) (aCons (eC (.int 1)) (aCons (eC (.int 1)) (aCons (eC (.int 2)) (aCons (eC (.int 2)) (aCons (eC (.int 3)) aNil))))))) (e2 fMod (eCall c_next (aCons (eVar 0) aNil)) (eC (.int 6)))) (eF (f1 fInt) (aCons (e2 fGt (eVar 9) (eC (.int 0))) aNil)))) (gN 11) (l1_kinds c_next))
  (bSeq (sApp 7 (eFl (eTup (aCons (eCall c_word (aCons (eC (.str ("m" : Str))) (aCons (eVar 2) (aCons (eVar 5) aNil)))) (aCons (eF (f1 fTuple) (aCons (eVar 10) aNil)) aNil)))))
  (sSet 5 (e2 fAdd (eVar 5) (eC (.int 1)))))))
def l3_kinds (c_next : List D → M D) (c_word : List D → M D) : Bd :=
  (bSeq (sSet 7 (eLst aNil))
  (bSeq (sSet 8 (eCall c_next (aCons (eVar 0) aNil)))
  (bSeq (sFor (i1 fR1 (e2 fIx (eLst (aCons (eC (.int 2)) (aCons (eC (.int 2)) (aCons (eC (.int 3)) (aCons (eC (.int 3)) (aCons (eC (.int 1)) (aCons (eC (.int 2)) aNil))))))) (e2 fMod (eVar 8) (eC (.int 6))))) (gN 9) (l2_kinds c_next c_word))
  (sApp 4 (eFl (eTup (aCons (eVar 6) (aCons (eF (f1 fTuple) (aCons (eVar 7) aNil)) aNil))))))))
def b_kinds (c_word : List D → M D) (c_next : List D → M D) : Bd :=
  (bSeq (sSet 1 (eCall c_next (aCons (eVar 0) aNil)))
  (bSeq (sSet 2 (eCall c_next (aCons (eVar 0) aNil)))
  (bSeq (sSet 3 (eLc (i1 fR1 (e2 fAdd (eC (.int 1)) (e2 fMod (eVar 1) (eC (.int 3))))) (gN 9) tY (eCall c_word (aCons (eC (.str ("k" : Str))) (aCons (eVar 2) (aCons (eVar 9) aNil)))) [9]))
  (bSeq (sSet 4 (eLst aNil))
  (bSeq (sSet 5 (eC (.int 0)))
  (bSeq (sFor (iSeq (eVar 3)) (gN 6) (l3_kinds c_next c_word))
  (sRet (eF (f1 fTuple) (aCons (eVar 4) aNil)))))))))
theorem ok_kinds {k : Nat} {a_kinds : Addr} {d_kinds : FuncData} {a_word : Addr} {d_word : FuncData} {c_word : List D → M D} {a_next : Addr} {d_next : FuncData} {c_next : List D → M D} (T : Bt mg) (C_kinds : Cal K mg "_law_kinds" s_kinds P_kinds a_kinds d_kinds) (C_word : Cal K mg "_law_word" s_word P_word a_word d_word) (G_word : FnOk P w K mg base CX0 k a_word d_word P_word (spM ⟨K, dk⟩ W c_word)) (C_next : Cal K mg "_law_next" s_next P_next a_next d_next) (G_next : FnOk P w K mg base CX0 k a_next d_next P_next (spM ⟨K, dk⟩ W c_next)) :
    FnOk P w K mg base CX0 (k + 1) a_kinds d_kinds P_kinds (spM ⟨K, dk⟩ W (fnA 1 13 (b_kinds c_word c_next))) :=
  fn_ok [4, 7, 10] C_kinds.F sc_kinds rfl fun cdv A outer s H E R hr =>
    (db_cons (ds_set (i := 1) sc_kinds.nd rfl (Or.inl rfl) (d_call G_next (hr.mono (by omega)) (by rfl) C_next.m C_next.F.kp C_next.b (da_cons (d_var (pv 0)) da_nil)))
    (db_cons (ds_set (i := 2) sc_kinds.nd rfl (Or.inr rfl) (d_call G_next (hr.mono (by omega)) (by rfl) C_next.m C_next.F.kp C_next.b (da_cons (d_var (pv 0)) da_nil)))
    (db_cons (ds_setLc (i := 3) (own := [("_law_at", 9)]) sc_kinds.nd rfl rfl (sw_true rfl rfl rfl (by decide +kernel)) (di_r1 (d_add d_int (d_mod (d_var (pv 1)) d_int)) (by rfl) T.t_range) (blkOk_by (own := [("_law_at", 9)]) (N := N_kinds) (sc := defScope s_kinds) (by decide +kernel)) (fun _ _ _ _ _ => (dg_name (pg_name (i := 9) sc_kinds.nd rfl (Or.inl rfl)))) (fun _ _ _ _ _ => dts_nil) (fun _ _ _ _ _ => (d_call G_word (hr.mono (by omega)) (by rfl) C_word.m C_word.F.kp C_word.b (da_cons d_str (da_cons (d_var (pv 2)) (da_cons (d_var (pv 9)) da_nil))))))
    (db_cons (ds_setO (i := 4) sc_kinds.nd rfl (Or.inl rfl) (do_lst da_nil aNil_len))
    (db_cons (ds_set (i := 5) sc_kinds.nd rfl (Or.inl rfl) d_int)
    (db_cons (ds_for (di_seq (d_var (pv 3))) (dg_name (pg_name (i := 6) sc_kinds.nd rfl (Or.inl rfl))) (db_cons (ds_setO (i := 7) sc_kinds.nd rfl (Or.inl rfl) (do_lst da_nil aNil_len))
    (db_cons (ds_set (i := 8) sc_kinds.nd rfl (Or.inl rfl) (d_call G_next (hr.mono (by omega)) (by rfl) C_next.m C_next.F.kp C_next.b (da_cons (d_var (pv 0)) da_nil)))
    (db_cons (ds_for (di_r1 (d_ix (d_lst (da_cons d_int (da_cons d_int (da_cons d_int (da_cons d_int (da_cons d_int (da_cons d_int da_nil)))))) (aCons_len (aCons_len (aCons_len (aCons_len (aCons_len (aCons_len aNil_len))))))) (d_mod (d_var (pv 8)) d_int)) (by rfl) T.t_range) (dg_name (pg_name (i := 9) sc_kinds.nd rfl (Or.inl rfl))) (db_cons (ds_setO (i := 10) sc_kinds.nd rfl (Or.inl rfl) (do_lst da_nil aNil_len))
    (db_cons (ds_for (di_r1 (d_mul (d_ix (d_lst (da_cons d_int (da_cons d_int (da_cons d_int (da_cons d_int (da_cons d_int (da_cons d_int da_nil)))))) (aCons_len (aCons_len (aCons_len (aCons_len (aCons_len (aCons_len aNil_len))))))) (d_mod (d_call G_next (hr.mono (by omega)) (by rfl) C_next.m C_next.F.kp C_next.b (da_cons (d_var (pv 0)) da_nil)) d_int)) (d_callT call_int1 c_int (by rfl) T.t_int (by decide +kernel) (da_cons (d_gt (d_var (pv 9)) d_int) da_nil))) (by rfl) T.t_range) (dg_name (pg_name (i := 11) sc_kinds.nd rfl (Or.inl rfl))) (db_cons (ds_set (i := 12) sc_kinds.nd rfl (Or.inl rfl) (d_call G_next (hr.mono (by omega)) (by rfl) C_next.m C_next.F.kp C_next.b (da_cons (d_var (pv 0)) da_nil)))
    (db_one (ds_app (pv 10) (d_ix (d_add (d_add (d_lst (da_cons (d_var (pv 6)) (da_cons (d_var (pv 6)) da_nil)) (aCons_len (aCons_len aNil_len))) (d_var (pv 3))) (d_lst (da_cons d_str da_nil) (aCons_len aNil_len))) (d_mod (d_var (pv 12)) (d_add (d_callB call_len (c_len rfl) (by rfl) T.t_len (by decide +kernel) (da_cons (d_var (pv 3)) da_nil)) d_int)))))))
    (db_cons (ds_app (pv 7) (d_open (d_tup (da_cons (d_call G_word (hr.mono (by omega)) (by rfl) C_word.m C_word.F.kp C_word.b (da_cons d_str (da_cons (d_var (pv 2)) (da_cons (d_var (pv 5)) da_nil)))) (da_cons (d_callT call_tuple_of (c_tuple rfl) (by rfl) T.t_tuple (by decide +kernel) (da_cons (d_var (pv 10)) da_nil)) da_nil)) (aCons_len (aCons_len aNil_len)))))
    (db_one (ds_set (i := 5) sc_kinds.nd rfl (Or.inl rfl) (d_add (d_var (pv 5)) d_int)))))))
    (db_one (ds_app (pv 4) (d_open (d_tup (da_cons (d_var (pv 6)) (da_cons (d_callT call_tuple_of (c_tuple rfl) (by rfl) T.t_tuple (by decide +kernel) (da_cons (d_var (pv 7)) da_nil)) da_nil)) (aCons_len (aCons_len aNil_len))))))))))
    (db_one (ds_ret (d_callT call_tuple_of (c_tuple rfl) (by rfl) T.t_tuple (by decide +kernel) (da_cons (d_var (pv 4)) da_nil))))))))))
abbrev s_some : Stmt := top 10
abbrev N_some : List Str := ["_law_deck_here", "_law_kinds_here", "_law_kind", "_law_far", "_law_loose", "_law_number", "_law_own", "_law_makers_here", "_law_maker", "_law_parts", "_law_row", "_law_part"]
abbrev P_some : List Str := ["_law_deck_here", "_law_kinds_here", "_law_kind", "_law_far", "_law_loose"]
theorem sc_some : FnScope N_some P_some (defScope s_some) := ⟨rfl, rfl, rfl, by decide +kernel, rfl, by decide +kernel, by decide +kernel⟩
def b_some (c_some : List D → M D) (c_makers : List D → M D) (c_next : List D → M D) : Bd :=
  (bSeq (sSet 5 (eCall c_next (aCons (eVar 0) aNil)))
  (bSeq (sSet 6 (e2 fAdd (eLc (iSeq (eVar 1)) (gN 10) tY (e2 fIx (eVar 10) (eC (.int 0))) [10]) (eLst (aCons (eC (.str ("truth" : Str))) aNil))))
  (bSeq (sIf (trB (e2 fEq (e2 fMod (eVar 5) (eC (.int 7))) (eC (.int 0)))) (sRet (eTup (aCons (eC (.str ("name" : Str))) (aCons (e2 fAdd (e2 fIx (eC (.str ("xyzt" : Str))) (e2 fIndex (eVar 6) (eVar 2))) (e2 fIx (eLst (aCons (eC (.str ("" : Str))) (aCons (eC (.str ("a" : Str))) (aCons (eC (.str ("b" : Str))) aNil)))) (e2 fMod (e2 fDiv (eVar 5) (eC (.int 7))) (eC (.int 3))))) aNil)))) bNil)
  (bSeq (sIf (tAn (trB (e2 fEq (e2 fMod (eVar 5) (eC (.int 7))) (eC (.int 1)))) (trB (eVar 4))) (sRet (eTup (aCons (eC (.str ("skip" : Str))) aNil))) bNil)
  (bSeq (sSet 7 (eCall c_makers (aCons (eVar 1) (aCons (eVar 2) aNil))))
  (bSeq (sAsg (e2 fIx (eVar 7) (e2 fMod (e2 fDiv (eVar 5) (eC (.int 7))) (eF (f1 fLen) (aCons (eVar 7) aNil)))) (gT (gsC (gN 8) (gsC (gN 9) gsN))))
  (bSeq (sIf (trB (e2 fEq (eVar 3) (eC (.int 0)))) (sAsg (e2 fIx (eVar 7) (eC (.int 0))) (gT (gsC (gN 8) (gsC (gN 9) gsN)))) bNil)
  (sRet (eTup (aCons (eC (.str ("made" : Str))) (aCons (eVar 8) (aCons (eF (f1 fTuple) (aCons (eLc (iSeq (eVar 9)) (gN 11) tY (eCall c_some (aCons (eVar 0) (aCons (eVar 1) (aCons (eVar 11) (aCons (eF (f2 fMax2) (aCons (eC (.int 0)) (aCons (e2 fSub (eVar 3) (eC (.int 1))) aNil))) (aCons (eVar 4) aNil)))))) [11]) aNil)) aNil))))))))))))
theorem ok_some {k : Nat} {a_some : Addr} {d_some : FuncData} {a_makers : Addr} {d_makers : FuncData} {c_makers : List D → M D} {a_next : Addr} {d_next : FuncData} {c_next : List D → M D} {c_some : List D → M D} (T : Bt mg) (C_some : Cal K mg "_law_some" s_some P_some a_some d_some) (G_some : FnOk P w K mg base CX0 k a_some d_some P_some (spM ⟨K, dk⟩ W c_some)) (C_makers : Cal K mg "_law_makers" s_makers P_makers a_makers d_makers) (G_makers : FnOk P w K mg base CX0 k a_makers d_makers P_makers (spM ⟨K, dk⟩ W c_makers)) (C_next : Cal K mg "_law_next" s_next P_next a_next d_next) (G_next : FnOk P w K mg base CX0 k a_next d_next P_next (spM ⟨K, dk⟩ W c_next)) :
    FnOk P w K mg base CX0 (k + 1) a_some d_some P_some (spM ⟨K, dk⟩ W (fnA 5 12 (b_some c_some c_makers c_next))) :=
  fn_ok [] C_some.F sc_some rfl fun cdv A outer s H E R hr =>
    (db_cons (ds_set (i := 5) sc_some.nd rfl (Or.inl rfl) (d_call G_next (hr.mono (by omega)) (by rfl) C_next.m C_next.F.kp C_next.b (da_cons (d_var (pv 0)) da_nil)))
    (db_cons (ds_set (i := 6) sc_some.nd rfl (Or.inl rfl) (d_add (d_lc (own := [("_law_row", 10)]) sc_some.nd (di_seq (d_var (pv 1))) (blkOk_by (own := [("_law_row", 10)]) (N := N_some) (sc := defScope s_some) (by decide +kernel)) (fun _ _ _ _ _ => (dg_name (pg_name (i := 10) sc_some.nd rfl (Or.inl rfl)))) (fun _ _ _ _ _ => dts_nil) (fun _ _ _ _ _ => (d_ix (d_var (pv 10)) d_int))) (d_lst (da_cons d_str da_nil) (aCons_len aNil_len))))
    (db_cons (ds_if (dt_eq hr.units (d_mod (d_var (pv 5)) d_int) d_int) (db_one (ds_ret (d_tup (da_cons d_str (da_cons (d_add (d_ix d_str (d_index (d_var (pv 6)) (d_var (pv 2)))) (d_ix (d_lst (da_cons d_str (da_cons d_str (da_cons d_str da_nil))) (aCons_len (aCons_len (aCons_len aNil_len)))) (d_mod (d_div (d_var (pv 5)) d_int) d_int))) da_nil)) (aCons_len (aCons_len aNil_len))))) db_nil)
    (db_cons (ds_if (dw_pt (dw_and (dt_eq hr.units (d_mod (d_var (pv 5)) d_int) d_int) (dw_and1 (dt_tr (d_var (pv 4)))))) (db_one (ds_ret (d_tup (da_cons d_str da_nil) (aCons_len aNil_len)))) db_nil)
    (db_cons (ds_set (i := 7) sc_some.nd rfl (Or.inl rfl) (d_call G_makers (hr.mono (by omega)) (by rfl) C_makers.m C_makers.F.kp C_makers.b (da_cons (d_var (pv 1)) (da_cons (d_var (pv 2)) da_nil))))
    (db_cons (ds_asg (d_ix (d_var (pv 7)) (d_mod (d_div (d_var (pv 5)) d_int) (d_callB call_len (c_len rfl) (by rfl) T.t_len (by decide +kernel) (da_cons (d_var (pv 7)) da_nil)))) (dg_tup (dgs_cons (dg_name (pg_name (i := 8) sc_some.nd rfl (Or.inl rfl))) (dgs_cons (dg_name (pg_name (i := 9) sc_some.nd rfl (Or.inl rfl))) dgs_nil))))
    (db_cons (ds_if (dt_eq hr.units (d_var (pv 3)) d_int) (db_one (ds_asg (d_ix (d_var (pv 7)) d_int) (dg_tup (dgs_cons (dg_name (pg_name (i := 8) sc_some.nd rfl (Or.inl rfl))) (dgs_cons (dg_name (pg_name (i := 9) sc_some.nd rfl (Or.inl rfl))) dgs_nil))))) db_nil)
    (db_one (ds_ret (d_tup (da_cons d_str (da_cons (d_var (pv 8)) (da_cons (d_callT call_tuple_of (c_tuple rfl) (by rfl) T.t_tuple (by decide +kernel) (da_cons (d_lc (own := [("_law_part", 11)]) sc_some.nd (di_seq (d_var (pv 9))) (blkOk_by (own := [("_law_part", 11)]) (N := N_some) (sc := defScope s_some) (by decide +kernel)) (fun _ _ _ _ _ => (dg_name (pg_name (i := 11) sc_some.nd rfl (Or.inl rfl)))) (fun _ _ _ _ _ => dts_nil) (fun _ _ _ _ _ => (d_call G_some (hr.mono (by omega)) (by rfl) C_some.m C_some.F.kp C_some.b (da_cons (d_var (pv 0)) (da_cons (d_var (pv 1)) (da_cons (d_var (pv 11)) (da_cons (d_callB (call_max2 rfl) c_max2 (by rfl) T.t_max (by decide +kernel) (da_cons d_int (da_cons (d_sub (d_var (pv 3)) d_int) da_nil))) (da_cons (d_var (pv 4)) da_nil)))))))) da_nil)) da_nil))) (aCons_len (aCons_len (aCons_len aNil_len)))))))))))))
abbrev s_otherwise : Stmt := top 13
abbrev N_otherwise : List Str := ["_law_deck_here", "_law_thing", "_law_new", "_law_number", "_law_at"]
abbrev P_otherwise : List Str := ["_law_deck_here", "_law_thing", "_law_new"]
theorem sc_otherwise : FnScope N_otherwise P_otherwise (defScope s_otherwise) := ⟨rfl, rfl, rfl, by decide +kernel, rfl, by decide +kernel, by decide +kernel⟩
def b_otherwise (c_otherwise : List D → M D) (c_next : List D → M D) : Bd :=
  (bSeq (sSet 3 (eCall c_next (aCons (eVar 0) aNil)))
  (bSeq (sIf (tOr' (trB (e2 fNe (e2 fIx (eVar 1) (eC (.int 0))) (eC (.str ("made" : Str))))) (tOr' (trB (e2 fEq (e2 fIx (eVar 1) (eC (.int 2))) (eTup aNil))) (trB (e2 fEq (e2 fMod (eVar 3) (eC (.int 4))) (eC (.int 0)))))) (sRet (e2 fIx (eVar 2) (e2 fMod (e2 fDiv (eVar 3) (eC (.int 4))) (eF (f1 fLen) (aCons (eVar 2) aNil))))) bNil)
  (bSeq (sSet 4 (e2 fMod (e2 fDiv (eVar 3) (eC (.int 4))) (eF (f1 fLen) (aCons (e2 fIx (eVar 1) (eC (.int 2))) aNil))))
  (sRet (eTup (aCons (eC (.str ("made" : Str))) (aCons (e2 fIx (eVar 1) (eC (.int 1))) (aCons (e2 fAdd (e2 fAdd (eSl (e2 fIx (eVar 1) (eC (.int 2))) (fun _ => Mp none) (pSome (eVar 4))) (eTup (aCons (eCall c_otherwise (aCons (eVar 0) (aCons (e2 fIx (e2 fIx (eVar 1) (eC (.int 2))) (eVar 4)) (aCons (eVar 2) aNil)))) aNil))) (eSl (e2 fIx (eVar 1) (eC (.int 2))) (pSome (e2 fAdd (eVar 4) (eC (.int 1)))) (fun _ => Mp none))) aNil))))))))
theorem ok_otherwise {k : Nat} {a_otherwise : Addr} {d_otherwise : FuncData} {a_next : Addr} {d_next : FuncData} {c_next : List D → M D} {c_otherwise : List D → M D} (T : Bt mg) (C_otherwise : Cal K mg "_law_otherwise" s_otherwise P_otherwise a_otherwise d_otherwise) (G_otherwise : FnOk P w K mg base CX0 k a_otherwise d_otherwise P_otherwise (spM ⟨K, dk⟩ W c_otherwise)) (C_next : Cal K mg "_law_next" s_next P_next a_next d_next) (G_next : FnOk P w K mg base CX0 k a_next d_next P_next (spM ⟨K, dk⟩ W c_next)) :
    FnOk P w K mg base CX0 (k + 1) a_otherwise d_otherwise P_otherwise (spM ⟨K, dk⟩ W (fnA 3 5 (b_otherwise c_otherwise c_next))) :=
  fn_ok [] C_otherwise.F sc_otherwise rfl fun cdv A outer s H E R hr =>
    (db_cons (ds_set (i := 3) sc_otherwise.nd rfl (Or.inl rfl) (d_call G_next (hr.mono (by omega)) (by rfl) C_next.m C_next.F.kp C_next.b (da_cons (d_var (pv 0)) da_nil)))
    (db_cons (ds_if (dw_pt (dw_or (dt_ne hr.units (d_ix (d_var (pv 1)) d_int) d_str) (dw_or (dt_eq hr.units (d_ix (d_var (pv 1)) d_int) (d_tup da_nil aNil_len)) (dw_or1 (dt_eq hr.units (d_mod (d_var (pv 3)) d_int) d_int))))) (db_one (ds_ret (d_ix (d_var (pv 2)) (d_mod (d_div (d_var (pv 3)) d_int) (d_callB call_len (c_len rfl) (by rfl) T.t_len (by decide +kernel) (da_cons (d_var (pv 2)) da_nil)))))) db_nil)
    (db_cons (ds_set (i := 4) sc_otherwise.nd rfl (Or.inl rfl) (d_mod (d_div (d_var (pv 3)) d_int) (d_callB call_len (c_len rfl) (by rfl) T.t_len (by decide +kernel) (da_cons (d_ix (d_var (pv 1)) d_int) da_nil))))
    (db_one (ds_ret (d_tup (da_cons d_str (da_cons (d_ix (d_var (pv 1)) d_int) (da_cons (d_add (d_add (d_sl (d_ix (d_var (pv 1)) d_int) dp_none (dp_some (d_var (pv 4)))) (d_tup (da_cons (d_call G_otherwise (hr.mono (by omega)) (by rfl) C_otherwise.m C_otherwise.F.kp C_otherwise.b (da_cons (d_var (pv 0)) (da_cons (d_ix (d_ix (d_var (pv 1)) d_int) (d_var (pv 4))) (da_cons (d_var (pv 2)) da_nil)))) da_nil) (aCons_len aNil_len))) (d_sl (d_ix (d_var (pv 1)) d_int) (dp_some (d_add (d_var (pv 4)) d_int)) dp_none)) da_nil))) (aCons_len (aCons_len (aCons_len aNil_len)))))))))
abbrev s_law : Stmt := top 15
abbrev N_law : List Str := ["_law_script", "_law_deck_here", "_law_kinds_here", "_law_some_here", "_law_k", "_law_way", "_law_kind", "_law_one", "_law_other", "_law_new", "_law_first", "_law_second", "_law_row", "_law_name"]
abbrev P_law : List Str := ["_law_script"]
theorem sc_law : FnScope N_law P_law (defScope s_law) := ⟨rfl, rfl, rfl, by decide +kernel, rfl, by decide +kernel, by decide +kernel⟩
def l1_law (c_same : List D → M D) (c_verdict : List D → M D) (c_l_verdict : List D → M D) : Bd :=
  (sIf (tNt (trB (eCall c_same (aCons (eCall c_verdict (aCons (eVar 10) (aCons (eVar 11) aNil))) (aCons (eCall c_l_verdict (aCons (eVar 10) (aCons (eVar 11) aNil))) aNil))))) (sRet (eC (.bl false))) bNil)
def l2_law (c_next : List D → M D) (c_some : List D → M D) (c_otherwise : List D → M D) (c_same : List D → M D) (c_verdict : List D → M D) (c_l_verdict : List D → M D) (c_mades : List D → M D) : Bd :=
  (bSeq (sSet 5 (eCall c_next (aCons (eVar 1) aNil)))
  (bSeq (sSet 6 (e2 fIx (eVar 3) (e2 fMod (e2 fDiv (eVar 5) (eC (.int 8))) (eF (f1 fLen) (aCons (eVar 3) aNil)))))
  (bSeq (sSet 7 (eCall c_some (aCons (eVar 1) (aCons (eVar 2) (aCons (eVar 6) (aCons (e2 fMod (e2 fDiv (eVar 5) (eC (.int 40))) (eC (.int 5))) (aCons (e2 fEq (e2 fMod (eVar 5) (eC (.int 2))) (eC (.int 0))) aNil)))))))
  (bSeq (sSet 8 (eVar 7))
  (bSeq (sIf (trB (e2 fEq (e2 fMod (e2 fDiv (eVar 5) (eC (.int 2))) (eC (.int 4))) (eC (.int 1)))) (sSet 8 (eCall c_some (aCons (eVar 1) (aCons (eVar 2) (aCons (eVar 6) (aCons (eC (.int 3)) (aCons (eC (.bl true)) aNil))))))) bNil)
  (bSeq (sIf (trB (e2 fGt (e2 fMod (e2 fDiv (eVar 5) (eC (.int 2))) (eC (.int 4))) (eC (.int 1)))) (bSeq (sSet 9 (eLc (iSeq (eVar 3)) (gN 13) tY (eCall c_some (aCons (eVar 1) (aCons (eVar 2) (aCons (eVar 13) (aCons (eC (.int 1)) (aCons (eC (.bl true)) aNil)))))) [13]))
  (sSet 8 (eCall c_otherwise (aCons (eVar 1) (aCons (eVar 7) (aCons (e2 fAdd (eLst (aCons (eTup (aCons (eC (.str ("skip" : Str))) aNil)) (aCons (eTup (aCons (eC (.str ("name" : Str))) (aCons (eC (.str ("q" : Str))) aNil))) aNil))) (eVar 9)) aNil)))))) bNil)
  (bSeq (sFor (iSeq (eLst (aCons (eTup (aCons (eVar 7) (aCons (eVar 8) aNil))) (aCons (eTup (aCons (eVar 8) (aCons (eVar 7) aNil))) (aCons (eTup (aCons (eVar 7) (aCons (eVar 7) aNil))) aNil))))) (gT (gsC (gN 10) (gsC (gN 11) gsN))) (l1_law c_same c_verdict c_l_verdict))
  (sIf (tAn (trB (e2 fIsNot (eCall c_mades (aCons (eVar 7) aNil)) (eC .non))) (tNt (trB (eCall c_same (aCons (eCall c_verdict (aCons (eVar 7) (aCons (eVar 7) aNil))) (aCons (eTup (aCons (eC k_YES) (aCons (eCall c_mades (aCons (eVar 7) aNil)) aNil))) aNil)))))) (sRet (eC (.bl false))) bNil))))))))
def b_law (c_same : List D → M D) (c_mades : List D → M D) (c_verdict : List D → M D) (c_l_verdict : List D → M D) (c_otherwise : List D → M D) (c_some : List D → M D) (c_next : List D → M D) (c_kinds : List D → M D) : Bd :=
  (bSeq (sSet 2 (eCall c_kinds (aCons (eVar 1) aNil)))
  (bSeq (sSet 3 (e2 fAdd (eLc (iSeq (eVar 2)) (gN 12) tY (e2 fIx (eVar 12) (eC (.int 0))) [12]) (eLst (aCons (eC (.str ("truth" : Str))) aNil))))
  (bSeq (sFor (i1 fR1 (eC (.int 4))) (gN 4) (l2_law c_next c_some c_otherwise c_same c_verdict c_l_verdict c_mades))
  (sRet (vAn (e2 fEq (eC k_YES) (eTup (aCons (eC (.str ("made" : Str))) (aCons (eC (.str ("yes" : Str))) (aCons (eTup aNil) aNil))))) (e2 fEq (eC k_NO) (eTup (aCons (eC (.str ("made" : Str))) (aCons (eC (.str ("no" : Str))) (aCons (eTup aNil) aNil))))))))))
abbrev ow_law : List Nat := []
theorem db_law {k : Nat} {a_law : Addr} {d_law : FuncData} {a_same : Addr} {d_same : FuncData} {c_same : List D → M D} {a_mades : Addr} {d_mades : FuncData} {c_mades : List D → M D} {a_verdict : Addr} {d_verdict : FuncData} {c_verdict : List D → M D} {a_l_verdict : Addr} {d_l_verdict : FuncData} {c_l_verdict : List D → M D} {a_otherwise : Addr} {d_otherwise : FuncData} {c_otherwise : List D → M D} {a_some : Addr} {d_some : FuncData} {c_some : List D → M D} {a_next : Addr} {d_next : FuncData} {c_next : List D → M D} {a_kinds : Addr} {d_kinds : FuncData} {c_kinds : List D → M D} (T : Bt mg) (C_same : Cal K mg "_law_same" s_same P_same a_same d_same) (G_same : FnOk P w K mg base CX0 k a_same d_same P_same (spM ⟨K, dk⟩ W c_same)) (C_mades : Cal K mg "_law_mades" s_mades P_mades a_mades d_mades) (G_mades : FnOk P w K mg base CX0 k a_mades d_mades P_mades (spM ⟨K, dk⟩ W c_mades)) (C_verdict : Cal K mg "verdict" s_verdict P_verdict a_verdict d_verdict) (G_verdict : FnOk P w K mg base CX0 k a_verdict d_verdict P_verdict (spM ⟨K, dk⟩ W c_verdict)) (C_l_verdict : Cal K mg "_law_verdict" s_l_verdict P_l_verdict a_l_verdict d_l_verdict) (G_l_verdict : FnOk P w K mg base CX0 k a_l_verdict d_l_verdict P_l_verdict (spM ⟨K, dk⟩ W c_l_verdict)) (C_otherwise : Cal K mg "_law_otherwise" s_otherwise P_otherwise a_otherwise d_otherwise) (G_otherwise : FnOk P w K mg base CX0 k a_otherwise d_otherwise P_otherwise (spM ⟨K, dk⟩ W c_otherwise)) (C_some : Cal K mg "_law_some" s_some P_some a_some d_some) (G_some : FnOk P w K mg base CX0 k a_some d_some P_some (spM ⟨K, dk⟩ W c_some)) (C_next : Cal K mg "_law_next" s_next P_next a_next d_next) (G_next : FnOk P w K mg base CX0 k a_next d_next P_next (spM ⟨K, dk⟩ W c_next)) (C_kinds : Cal K mg "_law_kinds" s_kinds P_kinds a_kinds d_kinds) (G_kinds : FnOk P w K mg base CX0 k a_kinds d_kinds P_kinds (spM ⟨K, dk⟩ W c_kinds)) (g_NO : GlobD K mg "NO" k_NO) (g_YES : GlobD K mg "YES" k_YES) (cdv : Value) (A : Around) (outer : List Env) (s : Shared) (H : Hp) (E : XK) (H0 R0 : Hp) (hr : Room k (A.deeper (PyProof.Rows.envOfC "law" (defScope s_law) s.heap.objs.size a_law cdv))) :
    DB (cxOf CX0 P w K mg base N_law "law" (defScope s_law) a_law cdv A outer s H E).nox ⟨⟨K, dk⟩, W, ow_law, H0, R0⟩ ((defBody s_law).drop 1) (b_law c_same c_mades c_verdict c_l_verdict c_otherwise c_some c_next c_kinds) :=
    (db_cons (ds_set (i := 2) sc_law.nd rfl (Or.inr rfl) (d_call G_kinds (hr.mono (by omega)) (by rfl) C_kinds.m C_kinds.F.kp C_kinds.b (da_cons (d_var (pv 1)) da_nil)))
    (db_cons (ds_set (i := 3) sc_law.nd rfl (Or.inl rfl) (d_add (d_lc (own := [("_law_row", 12)]) sc_law.nd (di_seq (d_var (pv 2))) (blkOk_by (own := [("_law_row", 12)]) (N := N_law) (sc := defScope s_law) (by decide +kernel)) (fun _ _ _ _ _ => (dg_name (pg_name (i := 12) sc_law.nd rfl (Or.inl rfl)))) (fun _ _ _ _ _ => dts_nil) (fun _ _ _ _ _ => (d_ix (d_var (pv 12)) d_int))) (d_lst (da_cons d_str da_nil) (aCons_len aNil_len))))
    (db_cons (ds_for (di_r1 d_int (by rfl) T.t_range) (dg_name (pg_name (i := 4) sc_law.nd rfl (Or.inl rfl))) (db_cons (ds_set (i := 5) sc_law.nd rfl (Or.inl rfl) (d_call G_next (hr.mono (by omega)) (by rfl) C_next.m C_next.F.kp C_next.b (da_cons (d_var (pv 1)) da_nil)))
    (db_cons (ds_set (i := 6) sc_law.nd rfl (Or.inl rfl) (d_ix (d_var (pv 3)) (d_mod (d_div (d_var (pv 5)) d_int) (d_callB call_len (c_len rfl) (by rfl) T.t_len (by decide +kernel) (da_cons (d_var (pv 3)) da_nil)))))
    (db_cons (ds_set (i := 7) sc_law.nd rfl (Or.inl rfl) (d_call G_some (hr.mono (by omega)) (by rfl) C_some.m C_some.F.kp C_some.b (da_cons (d_var (pv 1)) (da_cons (d_var (pv 2)) (da_cons (d_var (pv 6)) (da_cons (d_mod (d_div (d_var (pv 5)) d_int) d_int) (da_cons (d_eq hr.units (d_mod (d_var (pv 5)) d_int) d_int) da_nil)))))))
    (db_cons (ds_set (i := 8) sc_law.nd rfl (Or.inl rfl) (d_var (pv 7)))
    (db_cons (ds_if (dt_eq hr.units (d_mod (d_div (d_var (pv 5)) d_int) d_int) d_int) (db_one (ds_set (i := 8) sc_law.nd rfl (Or.inl rfl) (d_call G_some (hr.mono (by omega)) (by rfl) C_some.m C_some.F.kp C_some.b (da_cons (d_var (pv 1)) (da_cons (d_var (pv 2)) (da_cons (d_var (pv 6)) (da_cons d_int (da_cons d_bl da_nil)))))))) db_nil)
    (db_cons (ds_if (dt_gt (d_mod (d_div (d_var (pv 5)) d_int) d_int) d_int) (db_cons (ds_setLc (i := 9) (own := [("_law_name", 13)]) sc_law.nd rfl rfl (sw_true rfl rfl rfl (by decide +kernel)) (di_seq (d_var (pv 3))) (blkOk_by (own := [("_law_name", 13)]) (N := N_law) (sc := defScope s_law) (by decide +kernel)) (fun _ _ _ _ _ => (dg_name (pg_name (i := 13) sc_law.nd rfl (Or.inl rfl)))) (fun _ _ _ _ _ => dts_nil) (fun _ _ _ _ _ => (d_call G_some (hr.mono (by omega)) (by rfl) C_some.m C_some.F.kp C_some.b (da_cons (d_var (pv 1)) (da_cons (d_var (pv 2)) (da_cons (d_var (pv 13)) (da_cons d_int (da_cons d_bl da_nil))))))))
    (db_one (ds_set (i := 8) sc_law.nd rfl (Or.inl rfl) (d_call G_otherwise (hr.mono (by omega)) (by rfl) C_otherwise.m C_otherwise.F.kp C_otherwise.b (da_cons (d_var (pv 1)) (da_cons (d_var (pv 7)) (da_cons (d_add (d_lst (da_cons (d_tup (da_cons d_str da_nil) (aCons_len aNil_len)) (da_cons (d_tup (da_cons d_str (da_cons d_str da_nil)) (aCons_len (aCons_len aNil_len))) da_nil)) (aCons_len (aCons_len aNil_len))) (d_var (pv 9))) da_nil))))))) db_nil)
    (db_cons (ds_for (di_seq (d_lst (da_cons (d_tup (da_cons (d_var (pv 7)) (da_cons (d_var (pv 8)) da_nil)) (aCons_len (aCons_len aNil_len))) (da_cons (d_tup (da_cons (d_var (pv 8)) (da_cons (d_var (pv 7)) da_nil)) (aCons_len (aCons_len aNil_len))) (da_cons (d_tup (da_cons (d_var (pv 7)) (da_cons (d_var (pv 7)) da_nil)) (aCons_len (aCons_len aNil_len))) da_nil))) (aCons_len (aCons_len (aCons_len aNil_len))))) (dg_tup (dgs_cons (dg_name (pg_name (i := 10) sc_law.nd rfl (Or.inl rfl))) (dgs_cons (dg_name (pg_name (i := 11) sc_law.nd rfl (Or.inl rfl))) dgs_nil))) (db_one (ds_if (dt_not (dt_tr (d_call G_same (hr.mono (by omega)) (by rfl) C_same.m C_same.F.kp C_same.b (da_cons (d_call G_verdict (hr.mono (by omega)) (by rfl) C_verdict.m C_verdict.F.kp C_verdict.b (da_cons (d_var (pv 10)) (da_cons (d_var (pv 11)) da_nil))) (da_cons (d_call G_l_verdict (hr.mono (by omega)) (by rfl) C_l_verdict.m C_l_verdict.F.kp C_l_verdict.b (da_cons (d_var (pv 10)) (da_cons (d_var (pv 11)) da_nil))) da_nil))))) (db_one (ds_ret d_bl)) db_nil)))
    (db_one (ds_if (dw_pt (dw_and (dt_isnot (d_call G_mades (hr.mono (by omega)) (by rfl) C_mades.m C_mades.F.kp C_mades.b (da_cons (d_var (pv 7)) da_nil)) d_non) (dw_and1 (dt_not (dt_tr (d_call G_same (hr.mono (by omega)) (by rfl) C_same.m C_same.F.kp C_same.b (da_cons (d_call G_verdict (hr.mono (by omega)) (by rfl) C_verdict.m C_verdict.F.kp C_verdict.b (da_cons (d_var (pv 7)) (da_cons (d_var (pv 7)) da_nil))) (da_cons (d_tup (da_cons (d_glob (by rfl) g_YES) (da_cons (d_call G_mades (hr.mono (by omega)) (by rfl) C_mades.m C_mades.F.kp C_mades.b (da_cons (d_var (pv 7)) da_nil)) da_nil)) (aCons_len (aCons_len aNil_len))) da_nil)))))))) (db_one (ds_ret d_bl)) db_nil))))))))))
    (db_one (ds_ret (d_and (d_eq hr.units (d_glob (by rfl) g_YES) (d_tup (da_cons d_str (da_cons d_str (da_cons (d_tup da_nil aNil_len) da_nil))) (aCons_len (aCons_len (aCons_len aNil_len))))) (d_one (d_eq hr.units (d_glob (by rfl) g_NO) (d_tup (da_cons d_str (da_cons d_str (da_cons (d_tup da_nil aNil_len) da_nil))) (aCons_len (aCons_len (aCons_len aNil_len))))))))))))
end Sh


set_option Elab.async false
set_option linter.all false
set_option maxRecDepth 100000
namespace Sh
open PySem L2 Nf
def F_verdict : List D → M D := fnA 2 7 b_verdict
abbrev wcond : Td := trB (eVar 3)
/-- one turn -/
theorem vbody {a b : D} {x6 : Option D} {k n : Nat} {xs : List D} {u v : U} {x4 x5 : Option D} (hu : U.ok 12 u) (hv : U.ok 12 v) :
    l1_verdict [some a, some b, some (.int (k : Nat)), some (.lst (xs ++ [prD (u, v)])), x4, x5, x6] n = (match u, v with
      | .made w ps, .made w' qs => if w = w' then (if xs.length + (ps.zip qs).length ≤ 1000000 then some (.next [some a, some b, some (.int ((k + 1 : Nat))), some (.lst (xs ++ ((ps.zip qs).map prD).reverse)), some (U.made w ps).d, some (U.made w' qs).d, some (.lst ((ps.zip qs).map prD))], n)
          else l1_verdict [some a, some b, some (.int (k : Nat)), some (.lst (xs ++ [prD (u, v)])), x4, x5, x6] n)
        else some (.ret (.tup [vd (some false), .int ((k + 1 : Nat))]), n)
      | .name x, t => if U.isNm x t = true then some (.next [some a, some b, some (.int (k : Nat)), some (.lst xs), some (U.name x).d, some t.d, x6], n) else some (.ret (.tup [.non, .int (k : Nat)]), n)
      | _, _ => some (.ret (.tup [.non, .int (k : Nat)]), n)) := by
  have e0 : ∀ w : U, ∀ ρ : Sd, ∀ i m : Nat, ρ[i]? = some (some w.d) → e2 fIx (eVar i) (eC (.int 0)) ρ m = some (.str w.hd, m) := fun w ρ i m h => e2_e (eVar_e h) rfl w.ix0
  have e0n : ∀ x : Str, ∀ ρ : Sd, ∀ i m : Nat, ρ[i]? = some (some (U.name x).d) → e2 fIx (eVar i) (eC (.int 0)) ρ m = some (.str "name", m) := fun x => e0 (.name x)
  have e0s : ∀ ρ : Sd, ∀ i m : Nat, ρ[i]? = some (some U.skip.d) → e2 fIx (eVar i) (eC (.int 0)) ρ m = some (.str "skip", m) := e0 .skip
  have e0m : ∀ w ps, ∀ ρ : Sd, ∀ i m : Nat, ρ[i]? = some (some (U.made w ps).d) → e2 fIx (eVar i) (eC (.int 0)) ρ m = some (.str "made", m) := fun w ps => e0 (.made w ps)
  have pop : ∀ t : Bd, bSeq (sPop 3 (gT (gsC (gN 4) (gsC (gN 5) gsN)))) t [some a, some b, some (.int (k : Nat)), some (.lst (xs ++ [prD (u, v)])), x4, x5, x6] n = t [some a, some b, some (.int (k : Nat)), some (.lst xs), some u.d, some v.d, x6] n := fun t =>
    bSeq_n (sPop_n (xs := xs) (d := prD (u, v)) rfl rfl)
  have none_of : ∀ ρ : Sd, ρ[2]? = some (some (.int (k : Nat))) → sRet (eTup (aCons (eC .non) (aCons (eVar 2) aNil))) ρ n = some (.ret (.tup [.non, .int (k : Nat)]), n) := fun ρ h => sRet_r (eTup_e (aCons_e rfl (aCons_e (eVar_e h) aNil_e)))
  cases u with
  | name x =>
    unfold l1_verdict
    rw [pop, sIf_f (tAn_f (tEq_f (e0n x _ 4 _ rfl) rfl))]
    have hq : D.eqb (U.name x).d v.d = some (U.isNm x v) := by rw [U.eqb hu hv (by decide), nm_eqv]
    have t1 : trB (e2 fNe (eVar 4) (eVar 5)) [some a, some b, some (.int (k : Nat)), some (.lst xs), some (U.name x).d, some v.d, x6] n = some (!U.isNm x v, n) := trB_e (e2_e (eVar_e rfl) (eVar_e rfl) (z := .bl (!U.isNm x v)) (by unfold fNe; rw [hq]; rfl)) rfl
    have t2 := tOr_f (e := trB (e2 fNe (eVar 4) (eVar 5))) (tNe_f (b := eC (.str ("name" : Str))) (e0n x [some a, some b, some (.int (k : Nat)), some (.lst xs), some (U.name x).d, some v.d, x6] 4 n rfl) rfl)
    rw [t1] at t2
    dsimp only
    cases hb : U.isNm x v with
    | true => rw [hb] at t2; rw [sIf_f t2]; cases v <;> rfl
    | false => rw [hb] at t2; rw [sIf_t t2, none_of _ rfl]; cases v <;> rfl
  | skip =>
    unfold l1_verdict
    rw [pop, sIf_f (tAn_f (tEq_f (e0s _ 4 _ rfl) rfl)), sIf_t (tOr_t (tNe_t (e0s _ 4 _ rfl) rfl)), none_of _ rfl]
  | made w ps =>
    cases v with
    | name y =>
      unfold l1_verdict
      rw [pop, sIf_f ((tAn_t (tEq_t (e0m w ps _ 4 _ rfl) rfl)).trans (tEq_f (e0n y _ 5 _ rfl) rfl)), sIf_t (tOr_t (tNe_t (e0m w ps _ 4 _ rfl) rfl)), none_of _ rfl]
    | skip =>
      unfold l1_verdict
      rw [pop, sIf_f ((tAn_t (tEq_t (e0m w ps _ 4 _ rfl) rfl)).trans (tEq_f (e0s _ 5 _ rfl) rfl)), sIf_t (tOr_t (tNe_t (e0m w ps _ 4 _ rfl) rfl)), none_of _ rfl]
    | made w' qs =>
      dsimp only
      have hd : ∀ t1 t2 : Bd, l1_verdict = bSeq (sPop 3 (gT (gsC (gN 4) (gsC (gN 5) gsN)))) (sIf (tAn (trB (e2 fEq (e2 fIx (eVar 4) (eC (.int 0))) (eC (.str ("made" : Str))))) (trB (e2 fEq (e2 fIx (eVar 5) (eC (.int 0))) (eC (.str ("made" : Str)))))) (bSeq (sAug 2 fAddI (eC (.int 1))) t1) t2) →
          l1_verdict [some a, some b, some (.int (k : Nat)), some (.lst (xs ++ [prD (U.made w ps, U.made w' qs)])), x4, x5, x6] n = t1 [some a, some b, some (.int ((k + 1 : Nat))), some (.lst xs), some (U.made w ps).d, some (U.made w' qs).d, x6] n := fun t1 t2 h => by
        rw [h, pop, sIf_t ((tAn_t (tEq_t (e0m w ps _ 4 _ rfl) rfl)).trans (tEq_t (e0m w' qs _ 5 _ rfl) rfl)), bSeq_n (sAug_n (j := (k : Nat)) (k := 1) rfl rfl)]
        rfl
      have e1 : ∀ ρ : Sd, ∀ m : Nat, ρ[4]? = some (some (U.made w ps).d) → e2 fIx (eVar 4) (eC (.int 1)) ρ m = some (.str w, m) := fun ρ m h => e2_e (eVar_e h) rfl (ix_made1 w ps)
      have e1' : ∀ ρ : Sd, ∀ m : Nat, ρ[5]? = some (some (U.made w' qs).d) → e2 fIx (eVar 5) (eC (.int 1)) ρ m = some (.str w', m) := fun ρ m h => e2_e (eVar_e h) rfl (ix_made1 w' qs)
      by_cases hw : w = w'
      · rw [if_pos hw]
        by_cases hz : xs.length + (ps.zip qs).length ≤ 1000000
        · rw [if_pos hz, hd _ _ rfl, bSeq_n ((sIf_f (tNe_f (e1 _ _ rfl) (e1' _ _ rfl) hw)).trans rfl)]
          have e2' : ∀ ρ : Sd, ∀ m : Nat, ρ[4]? = some (some (U.made w ps).d) → ρ[5]? = some (some (U.made w' qs).d) → e2 fLZ (e2 fIx (eVar 4) (eC (.int 2))) (e2 fIx (eVar 5) (eC (.int 2))) ρ m = some (.lst ((ps.zip qs).map prD), m) := fun ρ m h1 h2 =>
            e2_e (e2_e (eVar_e h1) rfl (ix_made2 w ps)) (e2_e (eVar_e h2) rfl (ix_made2 w' qs)) (by rw [← prs_map]; rfl)
          rw [bSeq_n (sSet_n (e2' _ _ rfl rfl))]
          exact sExt_l rfl (e1_e (eVar_e rfl) rfl) (by rw [List.length_reverse, List.length_map]; exact hz)
        · rw [if_neg hz]
      · rw [if_neg hw, hd _ _ rfl, bSeq_r ((sIf_t (tNe_t (e1 _ _ rfl) (e1' _ _ rfl) hw)).trans (sRet_r (eTup_e (aCons_e rfl (aCons_e (eVar_e rfl) aNil_e)))))]
        rfl
end Sh


set_option Elab.async false
set_option linter.all false
set_option maxRecDepth 100000
namespace Sh
open PySem L2 Nf
theorem vloop : ∀ (f : Nat) (st : List (U × U)) (k : Nat) (a b : D) (x4 x5 x6 : Option D) (n : Nat), (∀ p ∈ st, U.ok 12 p.1 ∧ U.ok 12 p.2) → ssz st < f → ssz st ≤ 500000 →
    ∃ fl, wM wcond l1_verdict f [some a, some b, some (.int (k : Nat)), some (.lst (st.reverse.map prD)), x4, x5, x6] n = some (fl, n) ∧
      (match (vS st).1 with
        | some true => ∃ y4 y5 y6, fl = .next [some a, some b, some (.int ((k + (vS st).2 : Nat))), some (.lst []), y4, y5, y6]
        | o => fl = .ret (.tup [vd o, .int ((k + (vS st).2 : Nat))]))
  | 0, _, _, _, _, _, _, _, _, _, h, _ => by omega
  | f + 1, [], k, a, b, x4, x5, x6, n, _, _, _ => ⟨_, wM_f (trB_e (eVar_e rfl) rfl), x4, x5, x6, rfl⟩
  | f + 1, (u, v) :: r, k, a, b, x4, x5, x6, n, hok, hf, h5 => by
    obtain ⟨hu, hv⟩ := hok (u, v) (by simp)
    have hr : ∀ p ∈ r, U.ok 12 p.1 ∧ U.ok 12 p.2 := fun p hp => hok p (by simp [hp])
    rw [ssz_cons] at hf h5
    dsimp only at hf h5
    have hup := u.sz_pos
    rw [List.reverse_cons, List.map_append]
    show ∃ fl, wM wcond l1_verdict (f + 1) [some a, some b, some (.int (k : Nat)), some (.lst (r.reverse.map prD ++ [prD (u, v)])), x4, x5, x6] n = some (fl, n) ∧ _
    have ec : wcond [some a, some b, some (.int (k : Nat)), some (.lst (r.reverse.map prD ++ [prD (u, v)])), x4, x5, x6] n = some (true, n) := trB_e (eVar_e rfl) (by show some (!(_ ++ _ : List D).isEmpty) = _; cases r.reverse.map prD <;> rfl)
    have B := vbody (a := a) (b := b) (x6 := x6) (k := k) (n := n) (xs := r.reverse.map prD) (x4 := x4) (x5 := x5) hu hv
    have lr : (r.reverse.map prD).length ≤ ssz r := by rw [List.length_map, List.length_reverse]; exact ssz_len r
    have quit : ∀ (o : Option Bool) (j : Nat), vf u v = (o, j) → o ≠ some true → l1_verdict [some a, some b, some (.int (k : Nat)), some (.lst (r.reverse.map prD ++ [prD (u, v)])), x4, x5, x6] n = some (.ret (.tup [vd o, .int ((k + j : Nat))]), n) →
        ∃ fl, wM wcond l1_verdict (f + 1) [some a, some b, some (.int (k : Nat)), some (.lst (r.reverse.map prD ++ [prD (u, v)])), x4, x5, x6] n = some (fl, n) ∧
      (match (vS ((u, v) :: r)).1 with
        | some true => ∃ y4 y5 y6, fl = .next [some a, some b, some (.int ((k + (vS ((u, v) :: r)).2 : Nat))), some (.lst []), y4, y5, y6]
        | o => fl = .ret (.tup [vd o, .int ((k + (vS ((u, v) :: r)).2 : Nat))])) := fun o j hv hne hb => by
      refine ⟨_, wM_r ec hb, ?_⟩
      have e : vS ((u, v) :: r) = (o, j) := by
        simp only [vS, hv]
        match o, hne with
        | none, _ => rfl
        | some false, _ => rfl
        | some true, h => exact absurd rfl h
      rw [e]
      match o, hne with
      | none, _ => rfl
      | some false, _ => rfl
      | some true, h => exact absurd rfl h
    cases u with
    | name x =>
      cases hb : U.isNm x v with
      | true =>
        have B' : l1_verdict [some a, some b, some (.int (k : Nat)), some (.lst (r.reverse.map prD ++ [prD (U.name x, v)])), x4, x5, x6] n = some (.next [some a, some b, some (.int (k : Nat)), some (.lst (r.reverse.map prD)), some (U.name x).d, some v.d, x6], n) := by
          rw [B]; cases v <;> simp [hb]
        rw [wM_t ec B']
        have e : vS ((U.name x, v) :: r) = ((vS r).1, (vS r).2) := by simp [vS, vf, hb]
        rw [e]
        exact vloop f r k a b _ _ _ n hr (by omega) (by omega)
      | false =>
        refine quit none 0 (by simp [vf, hb]) (by simp) ?_
        rw [B]; cases v <;> simp [hb, vd]
    | skip =>
      refine quit none 0 (by simp [vf]) (by simp) ?_
      rw [B]; rfl
    | made w ps =>
      cases v with
      | name y => refine quit none 0 (by simp [vf]) (by simp) ?_; rw [B]; rfl
      | skip => refine quit none 0 (by simp [vf]) (by simp) ?_; rw [B]; rfl
      | made w' qs =>
        by_cases hw : w = w'
        · have hzs := ssz_zip ps qs
          have hzl := ssz_len (ps.zip qs)
          simp only [U.sz] at hf h5 hup
          have B' : l1_verdict [some a, some b, some (.int (k : Nat)), some (.lst (r.reverse.map prD ++ [prD (U.made w ps, U.made w' qs)])), x4, x5, x6] n = some (.next [some a, some b, some (.int ((k + 1 : Nat))), some (.lst ((ps.zip qs ++ r).reverse.map prD)), some (U.made w ps).d, some (U.made w' qs).d, some (.lst ((ps.zip qs).map prD))], n) := by
            rw [B]
            dsimp only
            rw [if_pos hw, if_pos (by omega), List.reverse_append, List.map_append, List.map_reverse (l := ps.zip qs)]
          rw [wM_t ec B']
          have key : vS ((U.made w ps, U.made w' qs) :: r) = ((vS (ps.zip qs ++ r)).1, 1 + (vS (ps.zip qs ++ r)).2) := by
            rw [vS_app]
            simp only [vS, vf, if_pos hw, vfA_zip]
            rcases vS (ps.zip qs) with ⟨o, j⟩
            match o with
            | none => rfl
            | some false => rfl
            | some true => simp [Nat.add_assoc]
          have ih := vloop f (ps.zip qs ++ r) (k + 1) a b (some (U.made w ps).d) (some (U.made w' qs).d) (some (.lst ((ps.zip qs).map prD))) n (fun p hp => by
            rcases List.mem_append.mp hp with h | h
            · obtain ⟨p1, p2⟩ := p
              have hm := List.of_mem_zip h
              exact ⟨U.ok_mono (n := 11) (m := 12) (by decide) (hu.2.2 p1 hm.1), U.ok_mono (n := 11) (m := 12) (by decide) (hv.2.2 p2 hm.2)⟩
            · exact hr p h) (by rw [ssz_app]; omega) (by rw [ssz_app]; omega)
          rw [key]
          dsimp only
          rw [show k + (1 + (vS (ps.zip qs ++ r)).2) = k + 1 + (vS (ps.zip qs ++ r)).2 by omega]
          exact ih
        · refine quit (some false) 1 (by simp [vf, hw]) (by simp) ?_
          rw [B]; simp [hw]
theorem verdict_f {u v : U} {n : Nat} (hu : U.ok 12 u) (hv : U.ok 12 v) (hz : u.sz ≤ 500000) : F_verdict [u.d, v.d] n = some (.tup [vd (vf u v).1, .int ((vf u v).2 : Nat)], n) := by
  have e1 : vS [(u, v)] = vf u v := by
    simp only [vS]
    rcases vf u v with ⟨o, j⟩
    match o with
    | none => rfl
    | some false => rfl
    | some true => simp
  obtain ⟨fl, h1, h2⟩ := vloop FU [(u, v)] 0 u.d v.d none none none n (fun p hp => by rw [List.mem_singleton.mp hp]; exact ⟨hu, hv⟩) (by simp [ssz, FU]; omega) (by simp [ssz]; omega)
  rw [e1] at h2
  refine fn_ret rfl ?_
  show b_verdict [some u.d, some v.d, none, none, none, none, none] n = _
  unfold b_verdict
  rw [bSeq_n (sSet_n rfl), bSeq_n (sSet_n (eLst_e (aCons_e (eTup_e (aCons_e (eVar_e rfl) (aCons_e (eVar_e rfl) aNil_e))) aNil_e)))]
  have h1' : sWh wcond l1_verdict [some u.d, some v.d, some (.int 0), some (.lst [.tup [u.d, v.d]]), none, none, none] n = some (fl, n) := h1
  rcases hvf : vf u v with ⟨o, j⟩
  rw [hvf] at h2
  match o with
  | none =>
    dsimp only at h2
    subst h2
    refine (bSeq_r h1').trans ?_
    rw [Nat.zero_add]
  | some false =>
    dsimp only at h2
    subst h2
    refine (bSeq_r h1').trans ?_
    rw [Nat.zero_add]
  | some true =>
    dsimp only at h2
    obtain ⟨y4, y5, y6, rfl⟩ := h2
    refine (bSeq_n h1').trans ?_
    rw [Nat.zero_add]
    exact sRet_r (eTup_e (aCons_e rfl (aCons_e (eVar_e rfl) aNil_e)))
end Sh


set_option Elab.async false
set_option linter.all false
set_option maxRecDepth 100000
namespace Sh
open PySem L2 Nf
/-! alike with itself -/
def D.sd : Nat → D → Prop
  | 0, _ => False
  | n + 1, .tup ds => ds.length ≤ 1000 ∧ ∀ d ∈ ds, D.sd n d
  | _ + 1, .str _ => True
  | _ + 1, .int _ => True
  | _ + 1, .non => True
  | _ + 1, _ => False
def F_same : Nat → List D → M D
  | 0 => fun _ _ => none
  | k + 1 => fnA 2 4 (b_same (F_same k))
theorem lc_same {k n : Nat} (ih : ∀ d, D.sd k d → F_same k [d, d] n = some (.bl true, n)) {a b : D} : ∀ (ds : List D), (∀ d ∈ ds, D.sd k d) →
    lcM (gT (gsC (gN 2) (gsC (gN 3) gsN))) tY (eCall (F_same k) (aCons (eVar 2) (aCons (eVar 3) aNil))) [some a, some b, none, none] (prs ds ds) n = some (ds.map fun _ => .bl true, n)
  | [], _ => rfl
  | d :: r, h => by
    have e : prs (d :: r) (d :: r) = .tup [d, d] :: prs r r := rfl
    rw [e]
    exact lcM_cons rfl (eCall_e (aCons_e (eVar_e rfl) (aCons_e (eVar_e rfl) aNil_e)) (ih d (h d (by simp)))) (lc_same ih r fun x hx => h x (by simp [hx]))
theorem bls_true : ∀ ds : List D, bls (ds.map fun _ => D.bl true) = some (ds.map fun _ => true)
  | [] => rfl
  | d :: r => by
    show (bls (r.map fun _ => D.bl true)).map (true :: ·) = _
    rw [bls_true r]; rfl
theorem all_true : ∀ ds : List D, (ds.map fun _ => true).all _root_.id = true
  | [] => rfl
  | d :: r => by rw [List.map_cons, List.all_cons, all_true r]; rfl
theorem same_refl : ∀ (k : Nat) (d : D) (n : Nat), D.sd k d → F_same k [d, d] n = some (.bl true, n)
  | 0, _, _, h => h.elim
  | k + 1, .tup ds, n, h => by
    refine fn_ret rfl ?_
    show b_same (F_same k) [some (.tup ds), some (.tup ds), none, none] n = _
    unfold b_same
    have t1 : ∀ i, ([some (D.tup ds), some (D.tup ds), none, none] : Sd)[i]? = some (some (.tup ds)) → trB (e1 (fIsi "tuple") (eVar i)) [some (.tup ds), some (.tup ds), none, none] n = some (true, n) := fun i hi => trB_e (e1_e (eVar_e hi) (y := .bl true) (by show (kitB "tuple" "tuple").map _ = _; rw [show kitB "tuple" "tuple" = some true by decide +kernel]; rfl)) rfl
    have l1 : ∀ i, ([some (D.tup ds), some (D.tup ds), none, none] : Sd)[i]? = some (some (.tup ds)) → eF (f1 fLen) (aCons (eVar i) aNil) [some (.tup ds), some (.tup ds), none, none] n = some (.int (ds.length : Nat), n) := fun i hi => eF_e (aCons_e (eVar_e hi) aNil_e) rfl
    have t2 : trB (e2 fNe (eF (f1 fLen) (aCons (eVar 0) aNil)) (eF (f1 fLen) (aCons (eVar 1) aNil))) [some (.tup ds), some (.tup ds), none, none] n = some (false, n) := trB_e (e2_e (l1 0 rfl) (l1 1 rfl) (z := .bl false) (by show some (D.bl (!decide _)) = _; simp)) rfl
    refine bSeq_r ((sIf_t (t1 1 rfl)).trans ((bSeq_n ((sIf_f ((tOr_f (tNt_e (t1 0 rfl))).trans t2)).trans rfl)).trans (sRet_r ?_)))
    refine eF_e (aCons_e (eLc_e (i2_e (eVar_e rfl) (eVar_e rfl) (zip_tup (by have := h.1; omega))) (lc_same (fun d hd => same_refl k d n hd) ds h.2)) aNil_e) ?_
    show (bls _).map _ = _
    rw [bls_true, Option.map_some, all_true]
  | k + 1, .str x, n, _ => by
    refine fn_ret rfl ?_
    show b_same (F_same k) [some (.str x), some (.str x), none, none] n = _
    unfold b_same
    have t1 : trB (e1 (fIsi "tuple") (eVar 1)) [some (.str x), some (.str x), none, none] n = some (false, n) := trB_e (e1_e (eVar_e rfl) (y := .bl false) (by show (kitB "str" "tuple").map _ = _; rw [show kitB "str" "tuple" = some false by decide +kernel]; rfl)) rfl
    have t3 : ∀ i, ([some (D.str x), some (D.str x), none, none] : Sd)[i]? = some (some (.str x)) → e1 (fIsi "str") (eVar i) [some (.str x), some (.str x), none, none] n = some (.bl true, n) := fun i hi => e1_e (eVar_e hi) (by show (kitB "str" "str").map _ = _; rw [show kitB "str" "str" = some true by decide +kernel]; rfl)
    rw [bSeq_n ((sIf_f t1).trans rfl), bSeq_n ((sIf_f (trB_e (e2_e (eVar_e rfl) rfl (z := .bl false) rfl) rfl)).trans rfl), bSeq_r ((sIf_t (trB_e (t3 1 rfl) rfl)).trans (sRet_r (d := .bl true) (m := n) ?_))]
    exact (vAn_t (t3 0 rfl) rfl).trans (e2_e (eVar_e rfl) (eVar_e rfl) (z := .bl true) (by rw [eq_str]; simp))
  | k + 1, .int x, n, _ => by
    refine fn_ret rfl ?_
    show b_same (F_same k) [some (.int x), some (.int x), none, none] n = _
    unfold b_same
    have t1 : ∀ T, kitB "int" T = some false → e1 (fIsi T) (eVar 1) [some (.int x), some (.int x), none, none] n = some (.bl false, n) := fun T hT => e1_e (eVar_e rfl) (by show (kitB "int" T).map _ = _; rw [hT]; rfl)
    have t2 : e1 (fIsi "int") (eVar 0) [some (.int x), some (.int x), none, none] n = some (.bl true, n) := e1_e (eVar_e rfl) (by show (kitB "int" "int").map _ = _; rw [show kitB "int" "int" = some true by decide +kernel]; rfl)
    have t3 : e1 (fIsi "bool") (eVar 0) [some (.int x), some (.int x), none, none] n = some (.bl false, n) := e1_e (eVar_e rfl) (by show (kitB "int" "bool").map _ = _; rw [show kitB "int" "bool" = some false by decide +kernel]; rfl)
    rw [bSeq_n ((sIf_f (trB_e (t1 "tuple" (by decide +kernel)) rfl)).trans rfl), bSeq_n ((sIf_f (trB_e (e2_e (eVar_e rfl) rfl (z := .bl false) rfl) rfl)).trans rfl), bSeq_n ((sIf_f (trB_e (t1 "str" (by decide +kernel)) rfl)).trans rfl)]
    exact sRet_r ((vAn_t t2 rfl).trans ((vAn_t (e1_e t3 (y := .bl true) rfl) rfl).trans (e2_e (eVar_e rfl) (eVar_e rfl) (z := .bl true) (by rw [eq_int]; simp))))
  | k + 1, .non, n, _ => by
    refine fn_ret rfl ?_
    show b_same (F_same k) [some .non, some .non, none, none] n = _
    unfold b_same
    have t1 : trB (e1 (fIsi "tuple") (eVar 1)) [some .non, some .non, none, none] n = some (false, n) := trB_e (e1_e (eVar_e rfl) (y := .bl false) (by show (kitB "NoneType" "tuple").map _ = _; rw [show kitB "NoneType" "tuple" = some false by decide +kernel]; rfl)) rfl
    rw [bSeq_n ((sIf_f t1).trans rfl), bSeq_r ((sIf_t (trB_e (e2_e (eVar_e rfl) rfl (z := .bl true) rfl) rfl)).trans (sRet_r (e2_e (eVar_e rfl) rfl (z := .bl true) rfl)))]
  | k + 1, .bl _, _, h => h.elim
  | k + 1, .lst _, _, h => h.elim
  | k + 1, .dk _ _, _, h => h.elim
  | k + 1, .ins _ _ _, _, h => h.elim
  | k + 1, .deck, _, h => h.elim
theorem vd_sd (o : Option Bool) (j : Int) : D.sd 4 (.tup [vd o, .int j]) := by
  refine ⟨by simp, fun d hd => ?_⟩
  simp only [List.mem_cons, List.not_mem_nil, or_false] at hd
  rcases hd with rfl | rfl
  · match o with
    | none => exact True.intro
    | some true =>
      refine ⟨by simp, fun d hd => ?_⟩
      simp only [List.mem_cons, List.not_mem_nil, or_false] at hd
      rcases hd with rfl | rfl | rfl
      · exact True.intro
      · exact True.intro
      · exact ⟨by simp, fun d hd => nomatch hd⟩
    | some false =>
      refine ⟨by simp, fun d hd => ?_⟩
      simp only [List.mem_cons, List.not_mem_nil, or_false] at hd
      rcases hd with rfl | rfl | rfl
      · exact True.intro
      · exact True.intro
      · exact ⟨by simp, fun d hd => nomatch hd⟩
  · exact True.intro
end Sh


set_option Elab.async false
set_option linter.all false
set_option maxRecDepth 100000
namespace Sh
open PySem L2 Nf
/-! the law's own verdict -/
def yesD : D := .tup [.str "made", .str "yes", .tup []]
theorem yes_sh : SeqAt.shaped (.tuple [.str "made", .str "yes", .tuple []]) = true := by decide +kernel
theorem no_sh : SeqAt.shaped (.tuple [.str "made", .str "no", .tuple []]) = true := by decide +kernel
theorem non_sh : SeqAt.shaped .none = true := by decide +kernel
theorem ne_vd (o : Option Bool) : fNe (vd o) yesD = some (.bl (!decide (o = some true))) := by
  match o with
  | none =>
    unfold fNe
    have e : D.eqb .non yesD = (if SeqAt.shaped .none = true ∧ SeqAt.shaped (.tuple [.str "made", .str "yes", .tuple []]) = true then some (PyData.eqv .none (.tuple [.str "made", .str "yes", .tuple []])) else none) := rfl
    show (D.eqb .non yesD).map _ = _
    rw [e, if_pos ⟨non_sh, yes_sh⟩]; rfl
  | some true =>
    unfold fNe
    show (D.eqb yesD yesD).map _ = _
    rw [show yesD = .tup [.str "made", .str "yes", .tup []] from rfl, eqb_tup (p := .tuple [.str "made", .str "yes", .tuple []]) (q := .tuple [.str "made", .str "yes", .tuple []]) rfl rfl yes_sh yes_sh]
    simp [PyData.eqv, PyData.eqvAll]
  | some false =>
    unfold fNe
    show (D.eqb (.tup [.str "made", .str "no", .tup []]) (.tup [.str "made", .str "yes", .tup []])).map _ = _
    rw [eqb_tup (p := .tuple [.str "made", .str "no", .tuple []]) (q := .tuple [.str "made", .str "yes", .tuple []]) rfl rfl no_sh yes_sh]
    simp [PyData.eqv, PyData.eqvAll]
    decide +kernel
def F_lv : Nat → List D → M D
  | 0 => fun _ _ => none
  | k + 1 => fnA 2 7 (b_l_verdict (F_lv k))
theorem lvloop {k n : Nat} (ih : ∀ u v, U.ok k u → U.ok 12 v → F_lv k [u.d, v.d] n = some (.tup [vd (vf u v).1, .int ((vf u v).2 : Nat)], n)) {a b : D} : ∀ (st : List (U × U)) (c : Nat) (x3 x4 x5 x6 : Option D), (∀ p ∈ st, U.ok k p.1 ∧ U.ok 12 p.2) →
    ∃ fl, fM (gT (gsC (gN 3) (gsC (gN 4) gsN))) (l1_l_verdict (F_lv k)) (st.map prD) [some a, some b, some (.int (c : Nat)), x3, x4, x5, x6] n = some (fl, n) ∧
      (match (vS st).1 with
        | some true => ∃ y3 y4 y5 y6, fl = .next [some a, some b, some (.int ((c + (vS st).2 : Nat))), y3, y4, y5, y6]
        | o => fl = .ret (.tup [vd o, .int ((c + (vS st).2 : Nat))]))
  | [], c, x3, x4, x5, x6, _ => ⟨_, rfl, x3, x4, x5, x6, rfl⟩
  | (u, v) :: r, c, x3, x4, x5, x6, h => by
    obtain ⟨hu, hv⟩ := h (u, v) (by simp)
    have E := ih u v hu hv
    rcases hvf : vf u v with ⟨o, j⟩
    rw [hvf] at E
    have g : (gT (gsC (gN 3) (gsC (gN 4) gsN))) (prD (u, v)) [some a, some b, some (.int (c : Nat)), x3, x4, x5, x6] = some [some a, some b, some (.int (c : Nat)), some u.d, some v.d, x5, x6] := rfl
    have step : ∀ t : Bd, bSeq (sAsg (eCall (F_lv k) (aCons (eVar 3) (aCons (eVar 4) aNil))) (gT (gsC (gN 5) (gsC (gN 6) gsN)))) (bSeq (sSet 2 (e2 fAdd (eVar 2) (eVar 6))) t) [some a, some b, some (.int (c : Nat)), some u.d, some v.d, x5, x6] n =
        t [some a, some b, some (.int ((c + j : Nat))), some u.d, some v.d, some (vd o), some (.int (j : Nat))] n := fun t => by
      rw [bSeq_n (sAsg_n (eCall_e (aCons_e (eVar_e rfl) (aCons_e (eVar_e rfl) aNil_e)) E) rfl), bSeq_n (sSet_n (e2_e (eVar_e rfl) (eVar_e rfl) rfl))]
      rfl
    have yl : eTup (aCons (eC (.str ("made" : Str))) (aCons (eC (.str ("yes" : Str))) (aCons (eTup aNil) aNil))) [some a, some b, some (.int ((c + j : Nat))), some u.d, some v.d, some (vd o), some (.int (j : Nat))] n = some (yesD, n) := eTup_e (aCons_e rfl (aCons_e rfl (aCons_e (eTup_e aNil_e) aNil_e)))
    have tst : trB (e2 fNe (eVar 5) (eTup (aCons (eC (.str ("made" : Str))) (aCons (eC (.str ("yes" : Str))) (aCons (eTup aNil) aNil))))) [some a, some b, some (.int ((c + j : Nat))), some u.d, some v.d, some (vd o), some (.int (j : Nat))] n = some (!decide (o = some true), n) := trB_e (e2_e (eVar_e rfl) yl (ne_vd o)) rfl
    by_cases ho : o = some true
    · subst ho
      have B : l1_l_verdict (F_lv k) [some a, some b, some (.int (c : Nat)), some u.d, some v.d, x5, x6] n = some (.next [some a, some b, some (.int ((c + j : Nat))), some u.d, some v.d, some (vd (some true)), some (.int (j : Nat))], n) := by
        unfold l1_l_verdict
        rw [step, sIf_f (tst.trans rfl)]; rfl
      rw [List.map_cons, fM_next g B]
      have e : vS ((u, v) :: r) = ((vS r).1, j + (vS r).2) := by simp [vS, hvf]
      rw [e]
      obtain ⟨fl, h1, h2⟩ := lvloop ih r (c + j) (some u.d) (some v.d) (some (vd (some true))) (some (.int (j : Nat))) fun p hp => h p (by simp [hp])
      refine ⟨fl, h1, ?_⟩
      dsimp only
      rw [← Nat.add_assoc]
      exact h2
    · have B : l1_l_verdict (F_lv k) [some a, some b, some (.int (c : Nat)), some u.d, some v.d, x5, x6] n = some (.ret (.tup [vd o, .int ((c + j : Nat))]), n) := by
        unfold l1_l_verdict
        rw [step, sIf_t (m := n) (tst.trans (by rw [decide_eq_false ho]; rfl))]
        exact sRet_r (eTup_e (aCons_e (eVar_e rfl) (aCons_e (eVar_e rfl) aNil_e)))
      have e : vS ((u, v) :: r) = (o, j) := by
        simp only [vS, hvf]
        match o, ho with
        | none, _ => rfl
        | some false, _ => rfl
        | some true, h => exact absurd rfl h
      refine ⟨_, (by rw [List.map_cons]; exact fM_ret g B), ?_⟩
      rw [e]
      match o, ho with
      | none, _ => rfl
      | some false, _ => rfl
      | some true, h => exact absurd rfl h
theorem lv_f : ∀ (k : Nat) (u v : U) (n : Nat), U.ok k u → U.ok 12 v → k ≤ 12 → F_lv k [u.d, v.d] n = some (.tup [vd (vf u v).1, .int ((vf u v).2 : Nat)], n)
  | 0, _, _, _, h, _, _ => h.elim
  | k + 1, u, v, n, hu, hv, hk => by
    have hu12 := U.ok_mono hk hu
    have e0 : ∀ w : U, ∀ i, ([some u.d, some v.d, none, none, none, none, none] : Sd)[i]? = some (some w.d) → e2 fIx (eVar i) (eC (.int 0)) [some u.d, some v.d, none, none, none, none, none] n = some (.str w.hd, n) := fun w i h => e2_e (eVar_e h) rfl w.ix0
    refine fn_ret rfl ?_
    show b_l_verdict (F_lv k) [some u.d, some v.d, none, none, none, none, none] n = _
    unfold b_l_verdict
    have yl : ∀ ρ : Sd, eTup (aCons (eC (.str ("made" : Str))) (aCons (eC (.str ("yes" : Str))) (aCons (eTup aNil) aNil))) ρ n = some (yesD, n) := fun ρ => eTup_e (aCons_e rfl (aCons_e rfl (aCons_e (eTup_e aNil_e) aNil_e)))
    have nl : ∀ ρ : Sd, eTup (aCons (eC (.str ("made" : Str))) (aCons (eC (.str ("no" : Str))) (aCons (eTup aNil) aNil))) ρ n = some (vd (some false), n) := fun ρ => eTup_e (aCons_e rfl (aCons_e rfl (aCons_e (eTup_e aNil_e) aNil_e)))
    cases u with
    | name x =>
      have hq : D.eqb (U.name x).d v.d = some (U.isNm x v) := by rw [U.eqb hu12 hv (by decide), nm_eqv]
      have t1 : trB (e2 fEq (eVar 0) (eVar 1)) [some (U.name x).d, some v.d, none, none, none, none, none] n = some (U.isNm x v, n) := trB_e (e2_e (eVar_e rfl) (eVar_e rfl) (z := .bl (U.isNm x v)) (by unfold fEq; rw [hq]; rfl)) rfl
      have t0 := tAn_t (e := trB (e2 fEq (eVar 0) (eVar 1))) (tEq_t (b := eC (.str ("name" : Str))) (y := "name") (e0 (.name x) 0 rfl) rfl rfl)
      rw [t1] at t0
      cases hb : U.isNm x v with
      | true =>
        rw [hb] at t0
        refine (bSeq_r ((sIf_t t0).trans (sRet_r (eTup_e (aCons_e (yl _) (aCons_e rfl aNil_e)))))).trans ?_
        simp [vf, hb]; rfl
      | false =>
        rw [hb] at t0
        rw [bSeq_n ((sIf_f t0).trans rfl)]
        refine (bSeq_r ((sIf_t (tOr_t (tNe_t (x := "name") (e0 (.name x) 0 rfl) rfl))).trans (sRet_r (eTup_e (aCons_e rfl (aCons_e rfl aNil_e)))))).trans ?_
        simp [vf, hb]; rfl
    | skip =>
      rw [bSeq_n ((sIf_f (tAn_f (tEq_f (x := "skip") (e0 .skip 0 rfl) rfl))).trans rfl)]
      exact bSeq_r ((sIf_t (tOr_t (tNe_t (x := "skip") (e0 .skip 0 rfl) rfl))).trans (sRet_r (eTup_e (aCons_e rfl (aCons_e rfl aNil_e)))))
    | made w ps =>
      rw [bSeq_n ((sIf_f (tAn_f (tEq_f (x := "made") (e0 (.made w ps) 0 rfl) rfl))).trans rfl)]
      have z1 := tOr_f (e := trB (e2 fNe (e2 fIx (eVar 1) (eC (.int 0))) (eC (.str ("made" : Str))))) (tNe_f (b := eC (.str ("made" : Str))) (y := "made") (e0 (.made w ps) 0 rfl) rfl rfl)
      cases v with
      | name y =>
        refine (bSeq_r ((sIf_t (z1.trans (tNe_t (x := "name") (e0 (.name y) 1 rfl) rfl))).trans (sRet_r (eTup_e (aCons_e rfl (aCons_e rfl aNil_e)))))).trans ?_
        simp [vf]; rfl
      | skip =>
        refine (bSeq_r ((sIf_t (z1.trans (tNe_t (x := "skip") (e0 .skip 1 rfl) rfl))).trans (sRet_r (eTup_e (aCons_e rfl (aCons_e rfl aNil_e)))))).trans ?_
        simp [vf]; rfl
      | made w' qs =>
        rw [bSeq_n ((sIf_f (z1.trans (tNe_f (y := "made") (e0 (.made w' qs) 1 rfl) rfl rfl))).trans rfl)]
        have j1 : e2 fIx (eVar 0) (eC (.int 1)) [some (U.made w ps).d, some (U.made w' qs).d, none, none, none, none, none] n = some (.str w, n) := e2_e (eVar_e rfl) rfl (ix_made1 w ps)
        have j2 : e2 fIx (eVar 1) (eC (.int 1)) [some (U.made w ps).d, some (U.made w' qs).d, none, none, none, none, none] n = some (.str w', n) := e2_e (eVar_e rfl) rfl (ix_made1 w' qs)
        by_cases hw : w = w'
        · rw [bSeq_n ((sIf_f (tNe_f j1 j2 hw)).trans rfl), bSeq_n (sSet_n rfl)]
          obtain ⟨fl, h1, h2⟩ := lvloop (k := k) (n := n) (fun u v hu hv => lv_f k u v n hu hv (by omega)) (a := (U.made w ps).d) (b := (U.made w' qs).d) (ps.zip qs) 1 none none none none fun p hp => by
            obtain ⟨p1, p2⟩ := p
            have hm := List.of_mem_zip hp
            exact ⟨hu.2.2 p1 hm.1, U.ok_mono (n := 11) (m := 12) (by decide) (hv.2.2 p2 hm.2)⟩
          have hlp : ps.length ≤ 3 := hu.2.1
          have hF : sFor (i2 fZip (e2 fIx (eVar 0) (eC (.int 2))) (e2 fIx (eVar 1) (eC (.int 2)))) (gT (gsC (gN 3) (gsC (gN 4) gsN))) (l1_l_verdict (F_lv k)) [some (U.made w ps).d, some (U.made w' qs).d, some (.int 1), none, none, none, none] n = some (fl, n) :=
            (sFor_i (i2_e (e2_e (eVar_e rfl) rfl (ix_made2 w ps)) (e2_e (eVar_e rfl) rfl (ix_made2 w' qs)) (zip_tup (by rw [List.length_map]; exact Nat.le_trans hlp (by decide))))).trans (by rw [prs_map]; exact h1)
          have ev : vf (U.made w ps) (U.made w' qs) = ((vS (ps.zip qs)).1, 1 + (vS (ps.zip qs)).2) := by simp only [vf, if_pos hw, vfA_zip]
          rw [ev]
          rcases hvs : vS (ps.zip qs) with ⟨o, j⟩
          rw [hvs] at h2
          match o with
          | none =>
            dsimp only at h2
            subst h2
            exact bSeq_r hF
          | some false =>
            dsimp only at h2
            subst h2
            exact bSeq_r hF
          | some true =>
            dsimp only at h2
            obtain ⟨y3, y4, y5, y6, rfl⟩ := h2
            exact (bSeq_n hF).trans (sRet_r (eTup_e (aCons_e (yl _) (aCons_e (eVar_e rfl) aNil_e))))
        · rw [bSeq_r ((sIf_t (tNe_t j1 j2 hw)).trans (sRet_r (eTup_e (aCons_e (nl _) (aCons_e rfl aNil_e)))))]
          simp [vf, hw]
/-! how many mades -/
def mD : Option Nat → D
  | none => .non
  | some j => .int (j : Nat)
def F_mades : Nat → List D → M D
  | 0 => fun _ _ => none
  | k + 1 => fnA 1 3 (b_mades (F_mades k))
theorem mds_in : ∀ ps : List U, fIn .non (.lst (ps.map fun u => mD u.mds)) = some (.bl (ps.any fun u => u.mds.isNone))
  | ps => by
    have h1 : (ps.map fun u => mD u.mds).all D.flt = true := by
      rw [List.all_eq_true]
      intro d hd
      obtain ⟨u, _, rfl⟩ := List.mem_map.mp hd
      cases u.mds <;> rfl
    have h2 : ((ps.map fun u => mD u.mds).any fun y => eqF y .non) = ps.any fun u => u.mds.isNone := by
      rw [List.any_map]
      congr 1
      funext u
      show eqF (mD u.mds) .non = _
      cases u.mds <;> rfl
    show (if D.flt .non = true ∧ (ps.map fun u => mD u.mds).all D.flt = true then some ((ps.map fun u => mD u.mds).any fun y => eqF y .non) else none).map _ = _
    rw [if_pos ⟨rfl, h1⟩, h2]
    rfl
theorem mdsA_none : ∀ ps : List U, (ps.any fun u => u.mds.isNone) = true → U.mdsA ps = none
  | [], h => by cases h
  | u :: r, h => by
    rw [List.any_cons, Bool.or_eq_true] at h
    simp only [U.mdsA]
    rcases h with h | h
    · rw [Option.isNone_iff_eq_none.mp h]
    · rw [mdsA_none r h]; cases u.mds <;> rfl
theorem mdsA_some : ∀ ps : List U, (ps.any fun u => u.mds.isNone) = false → ∃ j, U.mdsA ps = some j ∧ inz (ps.map fun u => mD u.mds) = some (ps.map fun u => ((u.mds.getD 0 : Nat) : Int)) ∧ (ps.map fun u => ((u.mds.getD 0 : Nat) : Int)).sum = (j : Int)
  | [], _ => ⟨0, rfl, rfl, rfl⟩
  | u :: r, h => by
    rw [List.any_cons, Bool.or_eq_false_iff] at h
    obtain ⟨j, h1, h2, h3⟩ := mdsA_some r h.2
    cases e : u.mds with
    | none => rw [e] at h; cases h.1
    | some a =>
      refine ⟨a + j, by simp only [U.mdsA, e, h1], ?_, ?_⟩
      · show (inz (mD u.mds :: r.map fun u => mD u.mds)) = _
        rw [e]
        show (inz (r.map fun u => mD u.mds)).map ((a : Int) :: ·) = _
        rw [h2, List.map_cons, e]; rfl
      · rw [List.map_cons, List.sum_cons, h3, e]; simp
theorem mades_f : ∀ (k : Nat) (u : U) (n : Nat), U.ok k u → k ≤ 12 → F_mades k [u.d] n = some (mD u.mds, n)
  | 0, _, _, h, _ => h.elim
  | k + 1, u, n, hu, hk => by
    have hu12 := U.ok_mono hk hu
    have hq : D.eqb u.d U.skip.d = some (U.isSk u) := by rw [U.eqb (n := 12) hu12 (show U.ok 12 U.skip from True.intro) (by decide), sk_eqv]
    have t0 : trB (e2 fEq (eVar 0) (eTup (aCons (eC (.str ("skip" : Str))) aNil))) [some u.d, none, none] n = some (U.isSk u, n) := trB_e (e2_e (eVar_e rfl) (eTup_e (aCons_e rfl aNil_e)) (z := .bl (U.isSk u)) (by rw [← U.d_skip]; unfold fEq; rw [hq]; rfl)) rfl
    have e0 : e2 fIx (eVar 0) (eC (.int 0)) [some u.d, none, none] n = some (.str u.hd, n) := e2_e (eVar_e rfl) rfl u.ix0
    refine fn_ret rfl ?_
    show b_mades (F_mades k) [some u.d, none, none] n = _
    unfold b_mades
    cases u with
    | skip => exact bSeq_r ((sIf_t t0).trans (sRet_r rfl))
    | name x =>
      rw [bSeq_n ((sIf_f t0).trans rfl)]
      exact bSeq_r ((sIf_t (tEq_t (y := "name") e0 rfl rfl)).trans (sRet_r rfl))
    | made w ps =>
      rw [bSeq_n ((sIf_f t0).trans rfl), bSeq_n ((sIf_f (tEq_f (x := "made") e0 rfl)).trans rfl)]
      have hlp : ps.length ≤ 3 := hu.2.1
      have lc : lcM (gN 2) tY (eCall (F_mades k) (aCons (eVar 2) aNil)) [some (U.made w ps).d, none, none] (ps.map U.d) n = some (ps.map fun u => mD u.mds, n) := lcM_map ps fun q hq => ⟨_, rfl, eCall_e (aCons_e (eVar_e rfl) aNil_e) (mades_f k q n (hu.2.2 q hq) (by omega))⟩
      rw [bSeq_n (sSet_n (eLc_e (iSeq_e (e2_e (eVar_e rfl) rfl (ix_made2 w ps)) (items_tup (by rw [List.length_map]; omega))) lc))]
      have ti : trB (e2 fIn (eC .non) (eVar 1)) [some (U.made w ps).d, some (.lst (ps.map fun u => mD u.mds)), none] n = some (ps.any fun u => u.mds.isNone, n) := trB_e (e2_e rfl (eVar_e rfl) (mds_in ps)) rfl
      cases hb : ps.any fun u => u.mds.isNone with
      | true =>
        rw [hb] at ti
        refine (bSeq_r ((sIf_t ti).trans (sRet_r rfl))).trans ?_
        simp only [U.mds, mdsA_none ps hb]; rfl
      | false =>
        rw [hb] at ti
        obtain ⟨j, h1, h2, h3⟩ := mdsA_some ps hb
        refine (bSeq_n ((sIf_f ti).trans rfl)).trans ?_
        refine (sRet_r (e2_e rfl (eF_e (aCons_e (eVar_e rfl) aNil_e) (d := .int (j : Int)) (by show (inz _).map _ = _; rw [h2, Option.map_some, h3])) (z := .int (1 + (j : Int))) rfl)).trans ?_
        simp only [U.mds, h1, Option.map_some, mD]
        rfl
end Sh


set_option Elab.async false
set_option linter.all false
set_option maxRecDepth 100000
namespace Sh
open PySem L2 Nf
theorem nx_e {f : Nat → Int} {n : Nat} (h : n < 2 ^ 40) : nxS f [.deck] n = some (.int (f n), n + 1) := if_pos h
theorem mul_i {i j : Int} (h : (-(2 ^ 64) < i ∧ i < 2 ^ 64) ∨ (-(2 ^ 64) < j ∧ j < 2 ^ 64)) : fMul (.int i) (.int j) = some (.int (i * j)) := if_pos h
/-! words -/
def letS : Str := "abcdefghijklmnopqrstuvwxyz"
theorem ix_let {i : Int} (h0 : 0 ≤ i) (h1 : i < 26) : ∃ c, fIx (.str letS) (.int i) = some (.str ⟨#[c]⟩) ∧ c < 128 := by
  have hl : letS.cps.toList.length = 26 := by decide +kernel
  have hk : i.toNat < letS.cps.toList.length := by omega
  have ha : letS.cps.toList.all (· < 128) = true := by decide +kernel
  refine ⟨letS.cps.toList[i.toNat], ?_, of_decide_eq_true (List.all_eq_true.mp ha _ (List.getElem_mem hk))⟩
  show (L2.atI letS.cps.toList i).map _ = _
  have e : L2.atI letS.cps.toList i = some letS.cps.toList[i.toNat] := by
    unfold L2.atI ixN
    rw [if_pos h0, if_pos (by omega)]
    exact List.getElem?_eq_getElem hk
  rw [e]; rfl
theorem okS_app {x y : Str} (h : okS x) (k : okS y) : okS (x ++ y) := by
  show (x.cps ++ y.cps).all _ = true
  rw [Array.all_append]
  exact Bool.and_eq_true_iff.mpr ⟨h, k⟩
theorem okS_one {c : Nat} (h : c < 128) : okS ⟨#[c]⟩ := by
  show (#[c] : Array Nat).all _ = true
  simp; omega
theorem mul_s {c : Nat} {j : Int} (hc : c < 128) (h0 : 0 ≤ j) (h1 : j < 3) : ∃ x, fMul (.str ⟨#[c]⟩) (.int j) = some (.str x) ∧ okS x ∧ x.length ≤ 2 := by
  have key : okS (Txt.mul ⟨#[c]⟩ j) ∧ (Txt.mul ⟨#[c]⟩ j).length ≤ 2 := by
    have h : j = 0 ∨ j = 1 ∨ j = 2 := by omega
    rcases h with rfl | rfl | rfl
    · exact ⟨by show (#[] : Array Nat).all _ = true; simp, by show (0 : Nat) ≤ 2; decide⟩
    · exact ⟨okS_one hc, by show (1 : Nat) ≤ 2; decide⟩
    · refine ⟨?_, by show (2 : Nat) ≤ 2; decide⟩
      show (#[c, c] : Array Nat).all _ = true
      simp; omega
  refine ⟨_, if_pos ⟨by show 1 ≤ 16; decide, by omega, by omega, by rw [PySem.sizeLine_eq]; omega⟩, key.1, key.2⟩
def F_word : List D → M D := fnA 3 5 b_word
theorem word_f {s : Str} {b k : Int} {n : Nat} (hs : okS s) (hl : s.length ≤ 4) (hb : 0 ≤ b ∧ b < 1000) (hk : 0 ≤ k ∧ k < 1000) : ∃ x, F_word [.str s, .int b, .int k] n = some (.str x, n) ∧ okS x ∧ x.length ≤ 10 := by
  obtain ⟨c, e1, c1⟩ := ix_let (i := b / 26 % 26) (mod_range (by decide)).1 (mod_range (by decide)).2
  obtain ⟨d, e2', c2⟩ := ix_let (i := (b + 5 * k) % 26) (mod_range (by decide)).1 (mod_range (by decide)).2
  obtain ⟨x, e3, o3, l3⟩ := mul_s (j := k * b % 3) c1 (mod_range (by decide)).1 (mod_range (by decide)).2
  have l1 : (⟨#[d]⟩ : Str).length = 1 := rfl
  have la : (s ++ (⟨#[d]⟩ : Str)).length = s.length + 1 := len_append _ _
  refine ⟨s ++ ⟨#[d]⟩ ++ x, fn_ret rfl ?_, okS_app (okS_app hs (okS_one c2)) o3, by rw [len_append, la]; omega⟩
  show b_word [some (.str s), some (.int b), some (.int k), none, none] n = _
  unfold b_word
  refine (bSeq_n (sSet_n rfl)).trans ((bSeq_n (sSet_n (d := .str x) (m := n) ?_)).trans (sRet_r ?_))
  · refine e2_e (e2_e (eVar_e rfl) (e2_e (e2_e (eVar_e rfl) rfl (div_i ⟨by decide, by decide⟩)) rfl (mod_i (by decide))) e1) (e2_e (e2_e (eVar_e rfl) (eVar_e rfl) (z := .int (k * b)) (mul_i (.inl ⟨by omega, by omega⟩))) rfl (mod_i (by decide))) e3
  · refine e2_e (e2_e (eVar_e rfl) (e2_e (eVar_e rfl) (e2_e (e2_e (eVar_e rfl) (e2_e rfl (eVar_e rfl) (z := .int (5 * k)) (mul_i (.inl ⟨by decide, by decide⟩))) (z := .int (b + 5 * k)) rfl) rfl (mod_i (by decide))) e2') (z := .str (s ++ ⟨#[d]⟩)) (add_str (by omega))) (eVar_e rfl) (add_str (by rw [la]; omega))
/-! kinds -/
structure Mk where
  w : Str
  ps : List Str
structure Kd where
  k : Str
  ms : List Mk
def Mk.d (m : Mk) : D := .tup [.str m.w, .tup (m.ps.map .str)]
def Kd.d (k : Kd) : D := .tup [.str k.k, .tup (k.ms.map Mk.d)]
def MkOk (ns : List Str) (m : Mk) : Prop := okS m.w ∧ m.ps.length ≤ 3 ∧ ∀ p ∈ m.ps, p ∈ ns ∨ p = "truth"
def KdOk (ns : List Str) (k : Kd) : Prop := okS k.k ∧ 0 < k.ms.length ∧ k.ms.length ≤ 3 ∧ (∀ m ∈ k.ms, MkOk ns m) ∧ ∀ m, k.ms.head? = some m → m.ps = []
def F_makers : List D → M D := fnA 2 4 b_makers
def msOf (ks : List Kd) (k : Str) : List Mk := match ks with
  | [] => [⟨"yes", []⟩, ⟨"no", []⟩]
  | q :: r => if q.k = k then q.ms else msOf r k
theorem makers_loop {K : D} {k : Str} {n : Nat} : ∀ (ks : List Kd) (x2 x3 : Option D), ∃ fl, fM (gT (gsC (gN 2) (gsC (gN 3) gsN))) l1_makers (ks.map Kd.d) [some K, some (.str k), x2, x3] n = some (fl, n) ∧
    (fl = .ret (.tup ((msOf ks k).map Mk.d)) ∨ (msOf ks k = [⟨"yes", []⟩, ⟨"no", []⟩] ∧ ∃ y2 y3, fl = .next [some K, some (.str k), y2, y3]))
  | [], x2, x3 => ⟨_, rfl, .inr ⟨rfl, x2, x3, rfl⟩⟩
  | q :: r, x2, x3 => by
    have g : (gT (gsC (gN 2) (gsC (gN 3) gsN))) q.d [some K, some (.str k), x2, x3] = some [some K, some (.str k), some (.str q.k), some (.tup (q.ms.map Mk.d))] := rfl
    by_cases h : q.k = k
    · refine ⟨_, fM_ret g ((sIf_t (tEq_t (eVar_e rfl) (eVar_e rfl) h)).trans (sRet_r (eVar_e rfl))), .inl ?_⟩
      show _ = Fl.ret (.tup ((if q.k = k then q.ms else msOf r k).map Mk.d))
      rw [if_pos h]
    · obtain ⟨fl, h1, h2⟩ := makers_loop r (some (.str q.k)) (some (.tup (q.ms.map Mk.d)))
      refine ⟨fl, (by rw [List.map_cons]; exact (fM_next g ((sIf_f (tEq_f (eVar_e rfl) (eVar_e rfl) h)).trans rfl)).trans h1), ?_⟩
      have e : msOf (q :: r) k = msOf r k := if_neg h
      rw [e]
      exact h2
theorem makers_f {ks : List Kd} {k : Str} {n : Nat} (h : ks.length ≤ 100) : F_makers [.tup (ks.map Kd.d), .str k] n = some (.tup ((msOf ks k).map Mk.d), n) := by
  obtain ⟨fl, h1, h2⟩ := makers_loop (K := .tup (ks.map Kd.d)) (k := k) (n := n) ks none none
  refine fn_ret rfl ?_
  show b_makers [some (.tup (ks.map Kd.d)), some (.str k), none, none] n = _
  unfold b_makers
  have hF : sFor (iSeq (eVar 0)) (gT (gsC (gN 2) (gsC (gN 3) gsN))) l1_makers [some (.tup (ks.map Kd.d)), some (.str k), none, none] n = some (fl, n) := (sFor_i (iSeq_e (eVar_e rfl) (items_tup (by rw [List.length_map]; omega)))).trans h1
  rcases h2 with rfl | ⟨e, y2, y3, rfl⟩
  · exact bSeq_r hF
  · rw [e]
    exact (bSeq_n hF).trans (sRet_r (eTup_e (aCons_e (eTup_e (aCons_e rfl (aCons_e (eTup_e aNil_e) aNil_e))) (aCons_e (eTup_e (aCons_e rfl (aCons_e (eTup_e aNil_e) aNil_e))) aNil_e))))
end Sh


set_option Elab.async false
set_option linter.all false
set_option maxRecDepth 100000
namespace Sh
open PySem L2 Nf
theorem atI_in {α : Type} {xs : List α} {i : Int} (h0 : 0 ≤ i) (h1 : i < xs.length) : ∃ x, L2.atI xs i = some x ∧ x ∈ xs ∧ xs[i.toNat]? = some x := by
  have hk : i.toNat < xs.length := by omega
  refine ⟨xs[i.toNat], ?_, List.getElem_mem hk, List.getElem?_eq_getElem hk⟩
  unfold L2.atI ixN
  rw [if_pos h0, if_pos h1]
  exact List.getElem?_eq_getElem hk
theorem ix_lst {α : Type} {f : α → D} {xs : List α} {i : Int} (h0 : 0 ≤ i) (h1 : i < xs.length) : ∃ x, fIx (.lst (xs.map f)) (.int i) = some (f x) ∧ x ∈ xs ∧ xs[i.toNat]? = some x := by
  obtain ⟨y, e, m, g⟩ := atI_in (xs := xs.map f) h0 (by rw [List.length_map]; exact h1)
  rw [List.getElem?_map] at g
  obtain ⟨x, hx, rfl⟩ := Option.map_eq_some_iff.mp g
  exact ⟨x, e, List.mem_of_getElem? hx, hx⟩
theorem ix_tup' {α : Type} {f : α → D} {xs : List α} {i : Int} (h0 : 0 ≤ i) (h1 : i < xs.length) : ∃ x, fIx (.tup (xs.map f)) (.int i) = some (f x) ∧ x ∈ xs ∧ xs[i.toNat]? = some x := ix_lst (f := f) h0 h1
theorem rngD_get {lo : Int} {k j : Nat} {d : D} (h : (rngD lo k)[j]? = some d) : d = .int (lo + j) ∧ j < k := by
  have hj : j < k := by
    have := (List.getElem?_eq_some_iff.mp h).1
    rwa [rngD_len] at this
  unfold rngD at h
  rw [List.getElem?_map, List.getElem?_range hj] at h
  cases h
  exact ⟨rfl, hj⟩
theorem r1_e {j : Int} (h : 0 ≤ j ∧ j ≤ 1000) : fR1 (.int j) = some (rngD 0 j.toNat) := if_pos (by omega)
theorem flat_strs' : ∀ ps : List Str, D.flatA (ps.map .str) = true
  | [] => rfl
  | p :: r => by simp only [List.map_cons, D.flatA, D.flat, flat_strs' r, Bool.and_self]
section
variable {f : Nat → Int} (hf : ∀ n, 0 ≤ f n ∧ f n < 1000)
include hf
theorem parts_loop {ns : List Str} {kk : Str} {x1 x2 x4 x5 x7 x8 x9 x11 x12 : Option D} {n r : Nat} (hk : kk ∈ ns) (hns : ns.length ≤ 3) (hr : r ≤ 3) (hn : n + 3 ≤ 2 ^ 40) :
    ∃ (ps : List Str) (y11 y12 : Option D) (m : Nat), fM (gN 11) (l1_kinds (nxS f)) (rngD 0 r) [some .deck, x1, x2, some (.lst (ns.map .str)), x4, x5, some (.str kk), x7, x8, x9, some (.lst []), x11, x12] n = some (.next [some .deck, x1, x2, some (.lst (ns.map .str)), x4, x5, some (.str kk), x7, x8, x9, some (.lst (ps.map .str)), y11, y12], m) ∧ m ≤ n + 3 ∧ ps.length = r ∧ ∀ p ∈ ps, p ∈ ns ∨ p = "truth" := by
  obtain ⟨ρ', m, h1, ps, y11, y12, rfl, h2, h3, h4⟩ := fM_inv (g := gN 11) (b := l1_kinds (nxS f)) (fun i ρ m => ∃ (ps : List Str) (y11 y12 : Option D), ρ = [some .deck, x1, x2, some (.lst (ns.map .str)), x4, x5, some (.str kk), x7, x8, x9, some (.lst (ps.map .str)), y11, y12] ∧ m = n + i ∧ ps.length = i ∧ ∀ p ∈ ps, p ∈ ns ∨ p = "truth") (rngD 0 r) 0
    [some .deck, x1, x2, some (.lst (ns.map .str)), x4, x5, some (.str kk), x7, x8, x9, some (.lst []), x11, x12] n ⟨[], x11, x12, rfl, rfl, rfl, by simp⟩ (by
      rintro j d ρ m hj ⟨ps, y11, y12, rfl, rfl, hl, hp⟩
      obtain ⟨rfl, hjr⟩ := rngD_get hj
      have hfm := hf (n + (0 + j))
      have hml : (0 : Int) < (ns.length : Int) + 3 := by omega
      have hr2 := mod_range (k := f (n + (0 + j))) hml
      obtain ⟨p, e1, hpm, _⟩ := ix_lst (f := D.str) (xs := [kk, kk] ++ ns ++ [("truth" : Str)]) (i := f (n + (0 + j)) % ((ns.length : Int) + 3)) hr2.1 (by rw [List.length_append, List.length_append]; show _ < ((2 + ns.length + 1 : Nat) : Int); have := hr2.2; omega)
      refine ⟨_, [some .deck, x1, x2, some (.lst (ns.map .str)), x4, x5, some (.str kk), x7, x8, x9, some (.lst ((ps ++ [p]).map .str)), some (.int (0 + j)), some (.int (f (n + (0 + j))))], n + (0 + j) + 1, rfl, ?_, ps ++ [p], _, _, rfl, rfl, by rw [List.length_append, hl]; rfl, ?_⟩
      · unfold l1_kinds
        refine (bSeq_n (sSet_n (eCall_e (aCons_e (eVar_e rfl) aNil_e) (nx_e (by omega))))).trans ?_
        rw [List.map_append]
        refine sApp_n (xs := ps.map .str) (d := .str p) rfl (e2_e (e2_e (e2_e (eLst_e (aCons_e (eVar_e rfl) (aCons_e (eVar_e rfl) aNil_e))) (eVar_e rfl) (add_lst (by simp; omega))) (eLst_e (aCons_e rfl aNil_e)) (add_lst (by simp; omega)))
          (e2_e (eVar_e rfl) (e2_e (eF_e (aCons_e (eVar_e rfl) aNil_e) rfl) rfl (z := .int ((ns.length : Int) + 3)) (by show some (D.int _) = _; rw [List.length_map])) (mod_i hml)) ?_) (by rw [List.length_map]; omega)
        rw [← e1, List.map_append, List.map_append]; rfl
      · intro q hq
        rcases List.mem_append.mp hq with h | h
        · exact hp q h
        · have : q = p := List.mem_singleton.mp h
          subst this
          simp only [List.mem_append, List.mem_cons, List.not_mem_nil, or_false] at hpm
          rcases hpm with (h | h) | h
          · exact .inl (by rcases h with h | h <;> (rw [h]; exact hk))
          · exact .inl h
          · exact .inr h)
  rw [rngD_len, Nat.zero_add] at h3 h2
  exact ⟨ps, y11, y12, m, h1, by omega, h3, h4⟩
theorem mks_loop {ns : List Str} {kk : Str} {x1 x4 x8 x9 x10 x11 x12 : Option D} {b : Int} {n r M0 : Nat} (hk : kk ∈ ns) (hns : ns.length ≤ 3) (hr : r ≤ 3) (hM : M0 ≤ 100) (hb : 0 ≤ b ∧ b < 1000) (hn : n + 12 ≤ 2 ^ 40) :
    ∃ (ms : List Mk) (y9 y10 y11 y12 : Option D) (m : Nat), fM (gN 9) (l2_kinds (nxS f) F_word) (rngD 0 r) [some .deck, x1, some (.int b), some (.lst (ns.map .str)), x4, some (.int (M0 : Nat)), some (.str kk), some (.lst []), x8, x9, x10, x11, x12] n =
      some (.next [some .deck, x1, some (.int b), some (.lst (ns.map .str)), x4, some (.int ((M0 + r : Nat))), some (.str kk), some (.lst (ms.map Mk.d)), x8, y9, y10, y11, y12], m) ∧ m ≤ n + 12 ∧ ms.length = r ∧ (∀ q ∈ ms, MkOk ns q) ∧ ∀ q, ms.head? = some q → q.ps = [] := by
  obtain ⟨ρ', m, h1, ms, y9, y10, y11, y12, rfl, h2, h3, h4, h5⟩ := fM_inv (g := gN 9) (b := l2_kinds (nxS f) F_word) (fun i ρ m => ∃ (ms : List Mk) (y9 y10 y11 y12 : Option D), ρ = [some .deck, x1, some (.int b), some (.lst (ns.map .str)), x4, some (.int ((M0 + i : Nat))), some (.str kk), some (.lst (ms.map Mk.d)), x8, y9, y10, y11, y12] ∧ m ≤ n + 4 * i ∧ ms.length = i ∧ (∀ q ∈ ms, MkOk ns q) ∧ ∀ q, ms.head? = some q → q.ps = []) (rngD 0 r) 0
    [some .deck, x1, some (.int b), some (.lst (ns.map .str)), x4, some (.int (M0 : Nat)), some (.str kk), some (.lst []), x8, x9, x10, x11, x12] n ⟨[], x9, x10, x11, x12, rfl, by omega, rfl, by simp, by simp⟩ (by
      rintro j d ρ m hj ⟨ms, y9, y10, y11, y12, rfl, hm, hl, hq, hh⟩
      obtain ⟨rfl, hjr⟩ := rngD_get hj
      have hfm := hf m
      have hr6 := mod_range (k := f m) (m := 6) (by decide)
      obtain ⟨c, e1, hc, _⟩ := ix_lst (f := D.int) (xs := [0, 1, 1, 2, 2, 3]) (i := f m % 6) hr6.1 (by simpa using hr6.2)
      have hc3 : 0 ≤ c ∧ c ≤ 3 := by
        simp only [List.mem_cons, List.not_mem_nil, or_false] at hc
        omega
      have eG : ∀ ρ : Sd, ∀ k : Nat, ρ[9]? = some (some (.int (0 + j))) → eF (f1 fInt) (aCons (e2 fGt (eVar 9) (eC (.int 0))) aNil) ρ k = some (.int (if decide ((0 : Int) < 0 + j) = true then 1 else 0), k) := fun ρ k h => eF_e (aCons_e (e2_e (eVar_e h) rfl (z := .bl (decide ((0 : Int) < 0 + j))) rfl) aNil_e) rfl
      have hcz : 0 ≤ c * (if decide ((0 : Int) < 0 + j) = true then 1 else 0) ∧ c * (if decide ((0 : Int) < 0 + j) = true then 1 else 0) ≤ 3 ∧ (j = 0 → c * (if decide ((0 : Int) < 0 + j) = true then 1 else 0) = 0) := by
        by_cases hj0 : (0 : Int) < 0 + j
        · rw [if_pos (decide_eq_true hj0)]; omega
        · rw [if_neg (by simp at hj0 ⊢; omega)]; omega
      obtain ⟨x, ex, ox, lx⟩ := word_f (s := "m") (b := b) (k := ((M0 + (0 + j) : Nat) : Int)) (n := 0) (by decide +kernel) (by decide) hb (by omega)
      obtain ⟨ps, z11, z12, m', p1, p2, p3, p4⟩ := parts_loop hf (ns := ns) (kk := kk) (x1 := x1) (x2 := some (.int b)) (x4 := x4) (x5 := some (.int ((M0 + (0 + j) : Nat)))) (x7 := some (.lst (ms.map Mk.d))) (x8 := x8) (x9 := some (.int (0 + j))) (x11 := y11) (x12 := y12) (n := m + 1)
        (r := (c * (if decide ((0 : Int) < 0 + j) = true then 1 else 0)).toNat) hk hns (by omega) (by omega)
      obtain ⟨x, ex, ox, lx⟩ := word_f (s := "m") (b := b) (k := ((M0 + (0 + j) : Nat) : Int)) (n := m') (by decide +kernel) (by decide) hb (by omega)
      refine ⟨_, [some .deck, x1, some (.int b), some (.lst (ns.map .str)), x4, some (.int ((M0 + (0 + j + 1) : Nat))), some (.str kk), some (.lst ((ms ++ [(⟨x, ps⟩ : Mk)]).map Mk.d)), x8, some (.int (0 + j)), some (.lst (ps.map .str)), z11, z12], m', rfl, ?_, ms ++ [⟨x, ps⟩], _, _, _, _, rfl, by omega, by rw [List.length_append, hl]; rfl, ?_, ?_⟩
      · unfold l2_kinds
        refine (bSeq_n (sSet_n (eLst_e aNil_e))).trans ?_
        refine (bSeq_n ((sFor_i (i1_e (e2_e (e2_e (eLst_e (aCons_e rfl (aCons_e rfl (aCons_e rfl (aCons_e rfl (aCons_e rfl (aCons_e rfl aNil_e))))))) (e2_e (eCall_e (aCons_e (eVar_e rfl) aNil_e) (nx_e (by omega))) rfl (mod_i (by decide))) e1) (eG _ _ rfl) (mul_i (.inl ⟨by omega, by omega⟩))) (r1_e (by omega)))).trans p1)).trans ?_
        refine (bSeq_n (sApp_n (xs := ms.map Mk.d) (d := Mk.d ⟨x, ps⟩) (m := m') rfl (eFl_e (eTup_e (aCons_e (eCall_e (aCons_e rfl (aCons_e (eVar_e rfl) (aCons_e (eVar_e rfl) aNil_e))) ex) (aCons_e (eF_e (aCons_e (eVar_e rfl) aNil_e) rfl) aNil_e))) ?_) (by rw [List.length_map]; omega))).trans ?_
        · show D.flat (.tup [.str x, .tup (ps.map .str)]) = true
          simp only [D.flat, D.flatA, flat_strs', Bool.and_self]
        · refine (sSet_n (e2_e (eVar_e rfl) rfl (z := .int ((M0 + (0 + j) : Nat) + 1)) rfl)).trans ?_
          rw [List.map_append]
          rfl
      · intro q hq'
        rcases List.mem_append.mp hq' with h | h
        · exact hq q h
        · have : q = ⟨x, ps⟩ := List.mem_singleton.mp h
          subst this
          exact ⟨ox, by show ps.length ≤ 3; omega, p4⟩
      · intro q hq'
        cases ms with
        | nil =>
          have : q = ⟨x, ps⟩ := by simpa using hq'.symm
          subst this
          have hj0 : j = 0 := by simp at hl; omega
          show ps = []
          have := hcz.2.2 hj0
          rw [this] at p3
          exact List.length_eq_zero_iff.mp (by simpa using p3)
        | cons a r => exact hh q (by simpa using hq'))
  rw [rngD_len, Nat.zero_add] at h3 h2
  refine ⟨ms, y9, y10, y11, y12, m, ?_, by omega, h3, h4, h5⟩
  rw [rngD_len, Nat.zero_add] at h1
  exact h1
end
end Sh


set_option Elab.async false
set_option linter.all false
set_option maxRecDepth 100000
namespace Sh
open PySem L2 Nf
def KsOk (ks : List Kd) : Prop := 0 < ks.length ∧ ks.length ≤ 3 ∧ ∀ k ∈ ks, KdOk (ks.map Kd.k) k
def F_kinds (f : Nat → Int) : List D → M D := fnA 1 13 (b_kinds F_word (nxS f))
theorem flat_mks : ∀ ms : List Mk, D.flatA (ms.map Mk.d) = true
  | [] => rfl
  | m :: r => by
    rw [List.map_cons]
    show (D.flat (.tup [.str m.w, .tup (m.ps.map .str)]) && _) = true
    simp only [D.flat, D.flatA, flat_strs', flat_mks r, Bool.and_self]
section
variable {f : Nat → Int} (hf : ∀ n, 0 ≤ f n ∧ f n < 1000)
include hf
theorem kinds_f {n : Nat} (hn : n + 60 ≤ 2 ^ 40) : ∃ ks m, F_kinds f [.deck] n = some (.tup (ks.map Kd.d), m) ∧ m ≤ n + 60 ∧ KsOk ks := by
  have h1 := hf n
  have h2 := hf (n + 1)
  have h3 := mod_range (k := f n) (m := 3) (by decide)
  -- the names
  have names : ∀ (k i : Nat), i + k ≤ 3 → ∀ ρ : Sd, ρ[2]? = some (some (.int (f (n + 1)))) → 9 < ρ.length → ∃ xs : List Str, lcM (gN 9) tY (eCall F_word (aCons (eC (.str ("k" : Str))) (aCons (eVar 2) (aCons (eVar 9) aNil)))) ρ ((List.range' i k).map fun (j : Nat) => D.int (0 + j)) (n + 2) = some (xs.map .str, n + 2) ∧ xs.length = k ∧ ∀ x ∈ xs, okS x := by
    intro k
    induction k with
    | zero => intro i _ ρ _ _; exact ⟨[], rfl, rfl, by simp⟩
    | succ k ih =>
      intro i hi ρ h2' h9
      obtain ⟨x, ex, ox, _⟩ := word_f (s := "k") (b := f (n + 1)) (k := 0 + (i : Int)) (n := n + 2) (by decide +kernel) (by decide) h2 (by omega)
      obtain ⟨xs, e, l, o⟩ := ih (i + 1) (by omega) ρ h2' h9
      refine ⟨x :: xs, ?_, by simp [l], fun y hy => ?_⟩
      · rw [List.range'_succ, List.map_cons]
        refine lcM_cons rfl (eCall_e (aCons_e rfl (aCons_e (eVar_e ?_) (aCons_e (eVar_e ?_) aNil_e))) ex) e
        · rw [List.getElem?_set_ne (by decide)]; exact h2'
        · rw [List.getElem?_set_self h9]
      · rcases List.mem_cons.mp hy with rfl | hy
        · exact ox
        · exact o y hy
  obtain ⟨ns, en, ln, on⟩ := names (1 + f n % 3).toNat 0 (by omega) [some .deck, some (.int (f n)), some (.int (f (n + 1))), none, none, none, none, none, none, none, none, none, none] rfl (by simp)
  have el : eLc (i1 fR1 (e2 fAdd (eC (.int 1)) (e2 fMod (eVar 1) (eC (.int 3))))) (gN 9) tY (eCall F_word (aCons (eC (.str ("k" : Str))) (aCons (eVar 2) (aCons (eVar 9) aNil)))) [9] [some .deck, some (.int (f n)), some (.int (f (n + 1))), none, none, none, none, none, none, none, none, none, none] (n + 2) = some (.lst (ns.map .str), n + 2) := by
    refine eLc_e (i1_e (e2_e rfl (e2_e (eVar_e rfl) rfl (mod_i (by decide))) (z := .int (1 + f n % 3)) rfl) (r1_e (by omega))) ?_
    unfold rngD
    rw [List.range_eq_range']
    exact en
  -- the kinds
  obtain ⟨ρ', m, g1, ks, y6, y7, y8, y9, y10, y11, y12, M0, rfl, g2, g3, g4, g5, g6⟩ := fM_inv (g := gN 6) (b := l3_kinds (nxS f) F_word) (fun i ρ m => ∃ (ks : List Kd) (y6 y7 y8 y9 y10 y11 y12 : Option D) (M0 : Nat), ρ = [some .deck, some (.int (f n)), some (.int (f (n + 1))), some (.lst (ns.map .str)), some (.lst (ks.map Kd.d)), some (.int (M0 : Nat)), y6, y7, y8, y9, y10, y11, y12] ∧ M0 ≤ 3 * i ∧ m ≤ n + 2 + 13 * i ∧ ks.length = i ∧ (∀ (j : Nat) (k : Kd), ks[j]? = some k → ns[j]? = some k.k) ∧ ∀ k ∈ ks, KdOk ns k)
    (ns.map .str) 0 [some .deck, some (.int (f n)), some (.int (f (n + 1))), some (.lst (ns.map .str)), some (.lst []), some (.int 0), none, none, none, none, none, none, none] (n + 2) ⟨[], none, none, none, none, none, none, none, 0, rfl, by omega, by omega, rfl, fun j k h => by simp at h, fun k h => by simp at h⟩ (by
      rintro j d ρ m hj ⟨ks, y6, y7, y8, y9, y10, y11, y12, M0, rfl, hM, hm, hl, hix, hok⟩
      rw [List.getElem?_map] at hj
      obtain ⟨kk, hkk, rfl⟩ := Option.map_eq_some_iff.mp hj
      have hjn : j < ns.length := (List.getElem?_eq_some_iff.mp hkk).1
      have hkm : kk ∈ ns := List.mem_of_getElem? hkk
      have hr6 := mod_range (k := f m) (m := 6) (by decide)
      obtain ⟨c, e1, hc, _⟩ := ix_lst (f := D.int) (xs := [2, 2, 3, 3, 1, 2]) (i := f m % 6) hr6.1 (by simpa using hr6.2)
      have hc3 : 1 ≤ c ∧ c ≤ 3 := by
        simp only [List.mem_cons, List.not_mem_nil, or_false] at hc
        omega
      obtain ⟨ms, z9, z10, z11, z12, m', p1, p2, p3, p4, p5⟩ := mks_loop hf (ns := ns) (kk := kk) (x1 := some (.int (f n))) (x4 := some (.lst (ks.map Kd.d))) (x8 := some (.int (f m))) (x9 := y9) (x10 := y10) (x11 := y11) (x12 := y12) (b := f (n + 1)) (n := m + 1) (r := c.toNat) (M0 := M0) hkm (by omega) (by omega) (by omega) h2 (by omega)
      refine ⟨_, [some .deck, some (.int (f n)), some (.int (f (n + 1))), some (.lst (ns.map .str)), some (.lst ((ks ++ [(⟨kk, ms⟩ : Kd)]).map Kd.d)), some (.int ((M0 + c.toNat : Nat))), some (.str kk), some (.lst (ms.map Mk.d)), some (.int (f m)), z9, z10, z11, z12], m', rfl, ?_, ks ++ [⟨kk, ms⟩], _, _, _, _, _, _, _, M0 + c.toNat, rfl, by omega, by omega, by rw [List.length_append, hl]; rfl, ?_, ?_⟩
      · unfold l3_kinds
        refine (bSeq_n (sSet_n (eLst_e aNil_e))).trans ((bSeq_n (sSet_n (eCall_e (aCons_e (eVar_e rfl) aNil_e) (nx_e (by omega))))).trans ?_)
        refine (bSeq_n ((sFor_i (i1_e (e2_e (eLst_e (aCons_e rfl (aCons_e rfl (aCons_e rfl (aCons_e rfl (aCons_e rfl (aCons_e rfl aNil_e))))))) (e2_e (eVar_e rfl) rfl (mod_i (by decide))) e1) (r1_e (by omega)))).trans p1)).trans ?_
        rw [List.map_append]
        refine sApp_n (xs := ks.map Kd.d) (d := Kd.d ⟨kk, ms⟩) (m := m') rfl (eFl_e (eTup_e (aCons_e (eVar_e rfl) (aCons_e (eF_e (aCons_e (eVar_e rfl) aNil_e) rfl) aNil_e))) ?_) (by rw [List.length_map]; omega)
        show D.flat (.tup [.str kk, .tup (ms.map Mk.d)]) = true
        simp only [D.flat, D.flatA, flat_mks, Bool.and_self]
      · intro i k hik
        by_cases hi : i < ks.length
        · rw [List.getElem?_append_left hi] at hik
          exact hix i k hik
        · rw [List.getElem?_append_right (by omega)] at hik
          have hi0 : i - ks.length = 0 := by
            have := (List.getElem?_eq_some_iff.mp hik).1
            simp at this; omega
          rw [hi0] at hik
          cases hik
          rw [show i = j by omega]
          exact hkk
      · intro k hk
        rcases List.mem_append.mp hk with h | h
        · exact hok k h
        · have : k = ⟨kk, ms⟩ := List.mem_singleton.mp h
          subst this
          exact ⟨on kk hkm, by show 0 < ms.length; omega, by show ms.length ≤ 3; omega, p4, p5⟩)
  rw [List.length_map, Nat.zero_add] at g2 g3 g4
  have ens : ns = ks.map Kd.k := by
    apply List.ext_getElem?
    intro i
    rw [List.getElem?_map]
    cases hi : ks[i]? with
    | none => rw [List.getElem?_eq_none (by have := List.getElem?_eq_none_iff.mp hi; omega)]; rfl
    | some k => rw [g5 i k hi]; rfl
  refine ⟨ks, m, fn_ret rfl ?_, by omega, by omega, by omega, fun k hk => ens ▸ g6 k hk⟩
  show b_kinds F_word (nxS f) [some .deck, none, none, none, none, none, none, none, none, none, none, none, none] n = _
  unfold b_kinds
  refine (bSeq_n (sSet_n (eCall_e (aCons_e (eVar_e rfl) aNil_e) (nx_e (by omega))))).trans ((bSeq_n (sSet_n (eCall_e (aCons_e (eVar_e rfl) aNil_e) (nx_e (by omega))))).trans ((bSeq_n (sSet_n el)).trans ((bSeq_n (sSet_n (eLst_e aNil_e))).trans ((bSeq_n (sSet_n rfl)).trans ?_))))
  refine (bSeq_n ((sFor_i (iSeq_e (eVar_e rfl) (items_lst (by rw [List.length_map]; omega)))).trans g1)).trans (sRet_r (eF_e (aCons_e (eVar_e rfl) aNil_e) rfl))
end
end Sh


set_option Elab.async false
set_option linter.all false
set_option maxRecDepth 100000
namespace Sh
open PySem L2 Nf
theorem index_s {x : Str} : ∀ {xs : List Str}, x ∈ xs → ∃ j : Nat, ixOf (.str x) (xs.map .str) = some j ∧ j < xs.length
  | y :: r, h => by
    show ∃ j, (if eqF (.str y) (.str x) = true then some 0 else (ixOf (.str x) (r.map .str)).map (· + 1)) = some j ∧ _
    by_cases e : eqF (.str y) (.str x) = true
    · rw [if_pos e]; exact ⟨0, rfl, by simp⟩
    · rw [if_neg e]
      have hx : x ∈ r := (List.mem_cons.mp h).resolve_left fun z => e (by rw [z]; show (y == y) = true; simp)
      obtain ⟨j, e1, h1⟩ := index_s hx
      exact ⟨j + 1, by rw [e1]; rfl, by simpa using h1⟩
theorem flt_strs (xs : List Str) : (xs.map D.str).all D.flt = true := by
  rw [List.all_eq_true]
  intro d hd
  obtain ⟨x, _, rfl⟩ := List.mem_map.mp hd
  rfl
theorem index_e {x : Str} {xs : List Str} (h : x ∈ xs) : ∃ j : Nat, fIndex (.lst (xs.map .str)) (.str x) = some (.int (j : Nat)) ∧ j < xs.length := by
  obtain ⟨j, e, hj⟩ := index_s h
  refine ⟨j, ?_, hj⟩
  show (if _ then _ else none) = _
  rw [if_pos ⟨rfl, flt_strs xs⟩, e]
  rfl
theorem ix_xyzt {j : Nat} (h : j < 4) : ∃ c, fIx (.str ("xyzt" : Str)) (.int (j : Nat)) = some (.str ⟨#[c]⟩) ∧ c < 128 := by
  have hl : ("xyzt" : Str).cps.toList.length = 4 := by decide +kernel
  have ha : ("xyzt" : Str).cps.toList.all (· < 128) = true := by decide +kernel
  obtain ⟨c, e, m, _⟩ := atI_in (xs := ("xyzt" : Str).cps.toList) (i := (j : Nat)) (by omega) (by omega)
  refine ⟨c, ?_, of_decide_eq_true (List.all_eq_true.mp ha _ m)⟩
  show (L2.atI ("xyzt" : Str).cps.toList (j : Nat)).map _ = _
  rw [e]; rfl
theorem us_of {P : U → Prop} : ∀ (ys : List D), (∀ y ∈ ys, ∃ u, y = U.d u ∧ P u) → ∃ us : List U, ys = us.map U.d ∧ ∀ u ∈ us, P u
  | [], _ => ⟨[], rfl, by simp⟩
  | y :: r, h => by
    obtain ⟨u, rfl, hu⟩ := h y (by simp)
    obtain ⟨us, rfl, hus⟩ := us_of r fun z hz => h z (by simp [hz])
    exact ⟨u :: us, rfl, fun v hv => (List.mem_cons.mp hv).elim (fun e => e ▸ hu) (hus v)⟩
def sc : Nat → Nat
  | 0 => 1
  | k + 1 => 1 + 3 * sc k
def F_some (f : Nat → Int) : Nat → List D → M D
  | 0 => fun _ _ => none
  | k + 1 => fnA 5 12 (b_some (F_some f k) F_makers (nxS f))
def own (ks : List Kd) : List Str := ks.map Kd.k ++ [("truth" : Str)]
theorem msOf_ok {ks : List Kd} {ns : List Str} (h : ∀ k ∈ ks, KdOk ns k) (x : Str) : 0 < (msOf ks x).length ∧ (msOf ks x).length ≤ 3 ∧ (∀ m ∈ msOf ks x, MkOk ns m) ∧ ∀ m, (msOf ks x).head? = some m → m.ps = [] := by
  induction ks with
  | nil =>
    refine ⟨by simp [msOf], by simp [msOf], fun m hm => ?_, fun m hm => ?_⟩
    · have : m = ⟨"yes", []⟩ ∨ m = ⟨"no", []⟩ := by simpa [msOf] using hm
      rcases this with rfl | rfl
      · exact ⟨by show okS "yes"; decide +kernel, by simp, by simp⟩
      · exact ⟨by show okS "no"; decide +kernel, by simp, by simp⟩
    · have : m = ⟨"yes", []⟩ := by simpa [msOf] using hm.symm
      rw [this]
  | cons q r ih =>
    have e : msOf (q :: r) x = if q.k = x then q.ms else msOf r x := rfl
    rw [e]
    by_cases hx : q.k = x
    · rw [if_pos hx]
      have hq := h q (by simp)
      exact ⟨hq.2.1, hq.2.2.1, hq.2.2.2.1, hq.2.2.2.2⟩
    · rw [if_neg hx]
      exact ih fun k hk => h k (by simp [hk])
section
variable {f : Nat → Int} (hf : ∀ n, 0 ≤ f n ∧ f n < 1000)
include hf
theorem some_f {ks : List Kd} (hks : KsOk ks) : ∀ (K far : Nat) (kind : Str) (lo : Bool) (n : Nat), far < K → kind ∈ own ks → n + sc far ≤ 2 ^ 40 → ∃ u m, F_some f K [.deck, .tup (ks.map Kd.d), .str kind, .int (far : Nat), .bl lo] n = some (U.d u, m) ∧ m ≤ n + sc far ∧ U.ok (far + 1) u
  | 0, _, _, _, _, h, _, _ => by omega
  | K + 1, far, kind, lo, n, hK, hkd, hn => by
    obtain ⟨l0, l3, hok⟩ := hks
    have h1 := hf n
    have sp : 1 ≤ sc far := by cases far <;> simp [sc] <;> omega
    have hown : (own ks).length ≤ 4 := by unfold own; rw [List.length_append, List.length_map]; simp; omega
    have start : ∀ t : Bd, bSeq (sSet 5 (eCall (nxS f) (aCons (eVar 0) aNil))) (bSeq (sSet 6 (e2 fAdd (eLc (iSeq (eVar 1)) (gN 10) tY (e2 fIx (eVar 10) (eC (.int 0))) [10]) (eLst (aCons (eC (.str ("truth" : Str))) aNil)))) t)
        [some .deck, some (.tup (ks.map Kd.d)), some (.str kind), some (.int (far : Nat)), some (.bl lo), none, none, none, none, none, none, none] n =
        t [some .deck, some (.tup (ks.map Kd.d)), some (.str kind), some (.int (far : Nat)), some (.bl lo), some (.int (f n)), some (.lst ((own ks).map .str)), none, none, none, none, none] (n + 1) := fun t => by
      refine (bSeq_n (sSet_n (eCall_e (aCons_e (eVar_e rfl) aNil_e) (nx_e (by omega))))).trans ((bSeq_n (sSet_n (e2_e (eLc_e (iSeq_e (eVar_e rfl) (items_tup (by rw [List.length_map]; omega))) (lcM_map (h := fun k => .str k.k) ks fun k hk => ⟨_, rfl, e2_e (eVar_e rfl) rfl rfl⟩)) (eLst_e (aCons_e rfl aNil_e)) (z := .lst ((own ks).map .str)) ?_))).trans rfl)
      rw [add_lst (by simp; omega)]
      unfold own
      rw [List.map_append, List.map_map]
      rfl
    have m7 : e2 fMod (eVar 5) (eC (.int 7)) [some .deck, some (.tup (ks.map Kd.d)), some (.str kind), some (.int (far : Nat)), some (.bl lo), some (.int (f n)), some (.lst ((own ks).map .str)), none, none, none, none, none] (n + 1) = some (.int (f n % 7), n + 1) := e2_e (eVar_e rfl) rfl (mod_i (by decide))
    by_cases c0 : f n % 7 = 0
    · obtain ⟨j, ej, hj⟩ := index_e hkd
      obtain ⟨c, ec, hc⟩ := ix_xyzt (j := j) (by omega)
      have hr3 := mod_range (k := f n / 7) (m := 3) (by decide)
      obtain ⟨y, ey, hy, _⟩ := ix_lst (f := D.str) (xs := [("" : Str), "a", "b"]) (i := f n / 7 % 3) hr3.1 (by simpa using hr3.2)
      have oy : okS y ∧ y.length ≤ 1 := by
        simp only [List.mem_cons, List.not_mem_nil, or_false] at hy
        rcases hy with rfl | rfl | rfl
        · exact ⟨by decide +kernel, by decide⟩
        · exact ⟨by decide +kernel, by decide⟩
        · exact ⟨by decide +kernel, by decide⟩
      refine ⟨.name ((⟨#[c]⟩ : Str) ++ y), n + 1, fn_ret rfl ?_, by omega, okS_app (okS_one hc) oy.1⟩
      show b_some (F_some f K) F_makers (nxS f) [some .deck, some (.tup (ks.map Kd.d)), some (.str kind), some (.int (far : Nat)), some (.bl lo), none, none, none, none, none, none, none] n = _
      unfold b_some
      refine (start _).trans (bSeq_r ((sIf_t (tEqI_t m7 rfl c0)).trans ?_))
      rw [U.d_name]
      have l1 : (⟨#[c]⟩ : Str).length = 1 := rfl
      exact sRet_r (eTup_e (aCons_e rfl (aCons_e (e2_e (e2_e rfl (e2_e (eVar_e rfl) (eVar_e rfl) ej) ec) (e2_e (eLst_e (aCons_e rfl (aCons_e rfl (aCons_e rfl aNil_e)))) (e2_e (e2_e (eVar_e rfl) rfl (div_i ⟨by decide, by decide⟩)) rfl (mod_i (by decide))) ey) (add_str (by omega))) aNil_e)))
    · by_cases c1 : f n % 7 = 1 ∧ lo = true
      · refine ⟨.skip, n + 1, fn_ret rfl ?_, by omega, True.intro⟩
        show b_some (F_some f K) F_makers (nxS f) [some .deck, some (.tup (ks.map Kd.d)), some (.str kind), some (.int (far : Nat)), some (.bl lo), none, none, none, none, none, none, none] n = _
        unfold b_some
        refine (start _).trans ((bSeq_n ((sIf_f (tEqI_f m7 rfl c0)).trans rfl)).trans (bSeq_r ((sIf_t ((tAn_t (tEqI_t m7 rfl c1.1)).trans (trB_e (eVar_e rfl) (by rw [c1.2]; rfl)))).trans ?_)))
        rw [U.d_skip]
        exact sRet_r (eTup_e (aCons_e rfl aNil_e))
      · have t1 : tAn (trB (e2 fEq (e2 fMod (eVar 5) (eC (.int 7))) (eC (.int 1)))) (trB (eVar 4)) [some .deck, some (.tup (ks.map Kd.d)), some (.str kind), some (.int (far : Nat)), some (.bl lo), some (.int (f n)), some (.lst ((own ks).map .str)), none, none, none, none, none] (n + 1) = some (false, n + 1) := by
          by_cases c2 : f n % 7 = 1
          · have : lo = false := by cases lo with | true => exact absurd ⟨c2, rfl⟩ c1 | false => rfl
            exact (tAn_t (tEqI_t m7 rfl c2)).trans (trB_e (eVar_e rfl) (by rw [this]; rfl))
          · exact tAn_f (tEqI_f m7 rfl c2)
        obtain ⟨q0, q3, qok, qh⟩ := msOf_ok hok kind
        have hml : (0 : Int) < ((msOf ks kind).length : Int) := by omega
        have hrm := mod_range (k := f n / 7) hml
        obtain ⟨mk, emk, hmk, gmk⟩ := ix_tup' (f := Mk.d) (xs := msOf ks kind) (i := f n / 7 % ((msOf ks kind).length : Int)) hrm.1 hrm.2
        obtain ⟨mk0, emk0, hmk0, gmk0⟩ := ix_tup' (f := Mk.d) (xs := msOf ks kind) (i := 0) (by decide) (by omega)
        have hp0 : mk0.ps = [] := qh mk0 (by rw [List.head?_eq_getElem?]; exact gmk0)
        -- the maker that is taken
        obtain ⟨mt, hmt, hmt0, est⟩ : ∃ mt : Mk, mt ∈ msOf ks kind ∧ (far = 0 → mt.ps = []) ∧ ∀ t : Bd, bSeq (sAsg (e2 fIx (eVar 7) (e2 fMod (e2 fDiv (eVar 5) (eC (.int 7))) (eF (f1 fLen) (aCons (eVar 7) aNil)))) (gT (gsC (gN 8) (gsC (gN 9) gsN)))) (bSeq (sIf (trB (e2 fEq (eVar 3) (eC (.int 0)))) (sAsg (e2 fIx (eVar 7) (eC (.int 0))) (gT (gsC (gN 8) (gsC (gN 9) gsN)))) bNil) t)
            [some .deck, some (.tup (ks.map Kd.d)), some (.str kind), some (.int (far : Nat)), some (.bl lo), some (.int (f n)), some (.lst ((own ks).map .str)), some (.tup ((msOf ks kind).map Mk.d)), none, none, none, none] (n + 1) =
            t [some .deck, some (.tup (ks.map Kd.d)), some (.str kind), some (.int (far : Nat)), some (.bl lo), some (.int (f n)), some (.lst ((own ks).map .str)), some (.tup ((msOf ks kind).map Mk.d)), some (.str mt.w), some (.tup (mt.ps.map .str)), none, none] (n + 1) := by
          have first : ∀ t : Bd, bSeq (sAsg (e2 fIx (eVar 7) (e2 fMod (e2 fDiv (eVar 5) (eC (.int 7))) (eF (f1 fLen) (aCons (eVar 7) aNil)))) (gT (gsC (gN 8) (gsC (gN 9) gsN)))) t
            [some .deck, some (.tup (ks.map Kd.d)), some (.str kind), some (.int (far : Nat)), some (.bl lo), some (.int (f n)), some (.lst ((own ks).map .str)), some (.tup ((msOf ks kind).map Mk.d)), none, none, none, none] (n + 1) =
            t [some .deck, some (.tup (ks.map Kd.d)), some (.str kind), some (.int (far : Nat)), some (.bl lo), some (.int (f n)), some (.lst ((own ks).map .str)), some (.tup ((msOf ks kind).map Mk.d)), some (.str mk.w), some (.tup (mk.ps.map .str)), none, none] (n + 1) := fun t =>
            bSeq_n (sAsg_n (d := Mk.d mk) (e2_e (eVar_e rfl) (e2_e (e2_e (eVar_e rfl) rfl (div_i ⟨by decide, by decide⟩)) (eF_e (aCons_e (eVar_e rfl) aNil_e) (d := .int ((msOf ks kind).length : Nat)) (by show some (D.int _) = _; rw [List.length_map])) (mod_i hml)) emk) rfl)
          by_cases hz : far = 0
          · exact ⟨mk0, hmk0, fun _ => hp0, fun t => (first _).trans (bSeq_n ((sIf_t (tEqI_t (x := (far : Nat)) (eVar_e rfl) rfl (by omega))).trans (sAsg_n (d := Mk.d mk0) (e2_e (eVar_e rfl) rfl emk0) rfl)))⟩
          · exact ⟨mk, hmk, fun z => absurd z hz, fun t => (first _).trans (bSeq_n ((sIf_f (tEqI_f (x := (far : Nat)) (eVar_e rfl) rfl (by omega))).trans rfl))⟩
        obtain ⟨ow, lp, hpk⟩ := qok mt hmt
        obtain ⟨ys, m, e3, hm, hly, hys⟩ := lcM_inv (g := gN 11) (te := eCall (F_some f K) (aCons (eVar 0) (aCons (eVar 1) (aCons (eVar 11) (aCons (eF (f2 fMax2) (aCons (eC (.int 0)) (aCons (e2 fSub (eVar 3) (eC (.int 1))) aNil))) (aCons (eVar 4) aNil))))))
          (ρ := [some .deck, some (.tup (ks.map Kd.d)), some (.str kind), some (.int (far : Nat)), some (.bl lo), some (.int (f n)), some (.lst ((own ks).map .str)), some (.tup ((msOf ks kind).map Mk.d)), some (.str mt.w), some (.tup (mt.ps.map .str)), none, none])
          (f := D.str) (c := sc (far - 1)) (fun y => ∃ u, y = U.d u ∧ U.ok far u) mt.ps (n + 1) (by
            cases far with
            | zero => rw [hmt0 rfl]; simp; omega
            | succ k => simp only [sc, Nat.add_sub_cancel] at hn ⊢; have := Nat.mul_le_mul_right (sc k) lp; omega) (by
            intro x hx
            have hfar : 0 < far := by
              rcases Nat.eq_zero_or_pos far with z | z
              · rw [hmt0 z] at hx; simp at hx
              · exact z
            refine ⟨_, rfl, fun n' hn' => ?_⟩
            obtain ⟨u, m, eu, hm, hu⟩ := some_f ⟨l0, l3, hok⟩ K (far - 1) x lo n' (by omega) (by
              unfold own
              rcases hpk x hx with h | h
              · exact List.mem_append_left _ h
              · rw [h]; simp) hn'
            refine ⟨U.d u, m, eCall_e (aCons_e (eVar_e rfl) (aCons_e (eVar_e rfl) (aCons_e (eVar_e rfl) (aCons_e (eF_e (aCons_e rfl (aCons_e (e2_e (eVar_e rfl) rfl (z := .int ((far : Nat) - 1)) rfl) aNil_e)) (d := .int ((far - 1 : Nat))) ?_) (aCons_e (eVar_e rfl) aNil_e))))) eu, hm, u, rfl, ?_⟩
            · show some (D.int (if ((far : Nat) : Int) - 1 > 0 then ((far : Nat) : Int) - 1 else 0)) = _
              congr 2
              split <;> omega
            · rw [show far = far - 1 + 1 by omega]; exact hu)
        obtain ⟨us, rfl, hus⟩ := us_of ys hys
        rw [List.length_map] at hly
        refine ⟨.made mt.w us, m, fn_ret rfl ?_, ?_, ow, by omega, hus⟩
        · show b_some (F_some f K) F_makers (nxS f) [some .deck, some (.tup (ks.map Kd.d)), some (.str kind), some (.int (far : Nat)), some (.bl lo), none, none, none, none, none, none, none] n = _
          unfold b_some
          refine (start _).trans ((bSeq_n ((sIf_f (tEqI_f m7 rfl c0)).trans rfl)).trans ((bSeq_n ((sIf_f t1).trans rfl)).trans ((bSeq_n (sSet_n (eCall_e (aCons_e (eVar_e rfl) (aCons_e (eVar_e rfl) aNil_e)) (makers_f (by omega))))).trans ((est _).trans ?_))))
          rw [U.d_made]
          exact sRet_r (eTup_e (aCons_e rfl (aCons_e (eVar_e rfl) (aCons_e (eF_e (aCons_e (eLc_e (iSeq_e (eVar_e rfl) (items_tup (by rw [List.length_map]; omega))) e3) aNil_e) rfl) aNil_e))))
        · cases far with
          | zero => rw [hmt0 rfl] at hm; simp at hm; simp [sc]; omega
          | succ k => simp only [sc, Nat.add_sub_cancel] at hm ⊢; have := Nat.mul_le_mul_right (sc k) lp; omega
end
end Sh


set_option Elab.async false
set_option linter.all false
set_option maxRecDepth 100000
namespace Sh
open PySem L2 Nf
theorem U.layA {n : Nat} : ∀ qs : List U, (∀ p ∈ qs, U.ok n p) → PyData.canLayAll0 (U.pA qs) = true ∧ PyData.depthAll (U.pA qs) ≤ 2 * n
  | [], _ => by simp [U.pA, PyData.canLayAll0, PyData.depthAll]
  | q :: r, hq => by
    obtain ⟨a1, a2⟩ := U.lay (hq q (by simp))
    obtain ⟨b1, b2⟩ := U.layA r fun p hp => hq p (by simp [hp])
    simp only [U.pA, PyData.canLayAll0, PyData.depthAll, a1, b1]
    exact ⟨rfl, by omega⟩
theorem eq_nil {n : Nat} {ps : List U} (h : ∀ p ∈ ps, U.ok n p) (hn : n ≤ 31) : fEq (.tup (ps.map U.d)) (.tup []) = some (.bl ps.isEmpty) := by
  obtain ⟨a, b⟩ := U.layA ps h
  have s1 : SeqAt.shaped (.tuple (U.pA ps)) = true := by
    have d : (PyData.tuple (U.pA ps)).depth ≤ 64 := by simp only [PyData.depth]; omega
    have c : (PyData.tuple (U.pA ps)).canLay0 = true := by simp only [PyData.canLay0]; exact a
    unfold SeqAt.shaped
    rw [c, decide_eq_true d]; rfl
  have e1 : (D.tup (ps.map U.d)).py = some (.tuple (U.pA ps)) := by
    rw [← U.dA_map]
    simp only [D.py, U.pyA, Option.map_some]
  unfold fEq
  rw [eqb_tup e1 (show (D.tup []).py = some (.tuple []) from rfl) s1 (by decide +kernel)]
  cases ps <;> rfl
theorem cut_take {ds : List D} {j : Nat} (h : j ≤ ds.length) : cutD ds none (some (j : Int)) = ds.take j := by
  show (ds.drop 0).take (HT.sIx ds.length ds.length (some ((j : Nat) : Int)) - 0) = _
  rw [HT.sIx_nat, List.drop_zero, Nat.sub_zero, Nat.min_eq_left h]
theorem cut_drop {ds : List D} {j : Nat} (h : j ≤ ds.length) : cutD ds (some (j : Int)) none = ds.drop j := by
  show (ds.drop (HT.sIx ds.length 0 (some ((j : Nat) : Int)))).take (ds.length - HT.sIx ds.length 0 (some ((j : Nat) : Int))) = _
  rw [HT.sIx_nat, Nat.min_eq_left h]
  exact List.take_of_length_le (by rw [List.length_drop]; exact Nat.le_refl _)
def F_oth (f : Nat → Int) : Nat → List D → M D
  | 0 => fun _ _ => none
  | k + 1 => fnA 3 5 (b_otherwise (F_oth f k) (nxS f))
section
variable {f : Nat → Int} (hf : ∀ n, 0 ≤ f n ∧ f n < 1000)
include hf
theorem oth_f {ns : List U} {e : Nat} (h0 : 0 < ns.length) (h9 : ns.length ≤ 100) (hns : ∀ v ∈ ns, U.ok e v) : ∀ (k : Nat) (u : U) (n : Nat), U.ok k u → k ≤ 12 → n + k ≤ 2 ^ 40 → ∃ v m, F_oth f k [.deck, u.d, .lst (ns.map U.d)] n = some (U.d v, m) ∧ m ≤ n + k ∧ U.ok (k + e) v
  | 0, _, _, h, _, _ => h.elim
  | k + 1, u, n, hu, hk, hn => by
    have h1 := hf n
    have hml : (0 : Int) < (ns.length : Int) := by omega
    have hrm := mod_range (k := f n / 4) hml
    obtain ⟨w0, ew, hw, _⟩ := ix_lst (f := U.d) (xs := ns) (i := f n / 4 % (ns.length : Int)) hrm.1 hrm.2
    have R : ∀ ρ : Sd, ρ[3]? = some (some (.int (f n))) → ρ[2]? = some (some (.lst (ns.map U.d))) → sRet (e2 fIx (eVar 2) (e2 fMod (e2 fDiv (eVar 3) (eC (.int 4))) (eF (f1 fLen) (aCons (eVar 2) aNil)))) ρ (n + 1) = some (.ret w0.d, n + 1) := fun ρ r3 r2 =>
      sRet_r (e2_e (eVar_e r2) (e2_e (e2_e (eVar_e r3) rfl (div_i ⟨by decide, by decide⟩)) (eF_e (aCons_e (eVar_e r2) aNil_e) (d := .int (ns.length : Nat)) (by show some (D.int _) = _; rw [List.length_map])) (mod_i hml)) ew)
    have fst : ∀ t : Bd, bSeq (sSet 3 (eCall (nxS f) (aCons (eVar 0) aNil))) t [some .deck, some u.d, some (.lst (ns.map U.d)), none, none] n = t [some .deck, some u.d, some (.lst (ns.map U.d)), some (.int (f n)), none] (n + 1) := fun t => bSeq_n (sSet_n (eCall_e (aCons_e (eVar_e rfl) aNil_e) (nx_e (by omega))))
    have e0 : e2 fIx (eVar 1) (eC (.int 0)) [some .deck, some u.d, some (.lst (ns.map U.d)), some (.int (f n)), none] (n + 1) = some (.str u.hd, n + 1) := e2_e (eVar_e rfl) rfl u.ix0
    have quit : ∀ c : Td, c [some .deck, some u.d, some (.lst (ns.map U.d)), some (.int (f n)), none] (n + 1) = some (true, n + 1) → ∀ t : Bd, bSeq (sSet 3 (eCall (nxS f) (aCons (eVar 0) aNil))) (bSeq (sIf c (sRet (e2 fIx (eVar 2) (e2 fMod (e2 fDiv (eVar 3) (eC (.int 4))) (eF (f1 fLen) (aCons (eVar 2) aNil))))) bNil) t) [some .deck, some u.d, some (.lst (ns.map U.d)), none, none] n = some (.ret w0.d, n + 1) := fun c hc t =>
      (fst _).trans (bSeq_r ((sIf_t hc).trans (R _ rfl rfl)))
    have hw0 : U.ok (k + 1 + e) w0 := U.ok_mono (by omega) (hns w0 hw)
    cases u with
    | name x => exact ⟨w0, n + 1, fn_ret rfl (quit _ (tOr_t (tNe_t (x := "name") e0 rfl)) _), by omega, hw0⟩
    | skip => exact ⟨w0, n + 1, fn_ret rfl (quit _ (tOr_t (tNe_t (x := "skip") e0 rfl)) _), by omega, hw0⟩
    | made w ps =>
      have t0 := tOr_f (e := tOr' (trB (e2 fEq (e2 fIx (eVar 1) (eC (.int 2))) (eTup aNil))) (trB (e2 fEq (e2 fMod (eVar 3) (eC (.int 4))) (eC (.int 0))))) (tNe_f (b := eC (.str ("made" : Str))) (y := "made") e0 rfl rfl)
      have p2 : ∀ ρ : Sd, ∀ m : Nat, ρ[1]? = some (some (U.made w ps).d) → e2 fIx (eVar 1) (eC (.int 2)) ρ m = some (.tup (ps.map U.d), m) := fun ρ m h => e2_e (eVar_e h) rfl (ix_made2 w ps)
      have t1 : trB (e2 fEq (e2 fIx (eVar 1) (eC (.int 2))) (eTup aNil)) [some .deck, some (U.made w ps).d, some (.lst (ns.map U.d)), some (.int (f n)), none] (n + 1) = some (ps.isEmpty, n + 1) := trB_e (e2_e (p2 _ _ rfl) (eTup_e aNil_e) (eq_nil hu.2.2 (by omega))) rfl
      have m4 : e2 fMod (eVar 3) (eC (.int 4)) [some .deck, some (U.made w ps).d, some (.lst (ns.map U.d)), some (.int (f n)), none] (n + 1) = some (.int (f n % 4), n + 1) := e2_e (eVar_e rfl) rfl (mod_i (by decide))
      cases hb : ps.isEmpty with
      | true =>
        rw [hb] at t1
        exact ⟨w0, n + 1, fn_ret rfl (quit _ (t0.trans (tOr_t t1)) _), by omega, hw0⟩
      | false =>
        rw [hb] at t1
        by_cases c4 : f n % 4 = 0
        · exact ⟨w0, n + 1, fn_ret rfl (quit _ (t0.trans ((tOr_f t1).trans (tEqI_t m4 rfl c4))) _), by omega, hw0⟩
        · have hpl : 0 < ps.length := by cases ps with | nil => cases hb | cons _ _ => simp
          have hp3 : ps.length ≤ 3 := hu.2.1
          have hpi : (0 : Int) < (ps.length : Int) := by omega
          have hrp := mod_range (k := f n / 4) hpi
          obtain ⟨p, ep, hp, gp⟩ := ix_tup' (f := U.d) (xs := ps) (i := f n / 4 % (ps.length : Int)) hrp.1 hrp.2
          obtain ⟨j, hj⟩ : ∃ j : Nat, f n / 4 % (ps.length : Int) = (j : Nat) := ⟨(f n / 4 % (ps.length : Int)).toNat, by omega⟩
          have hjl : j < ps.length := by omega
          obtain ⟨v, m, ev, hm, hv⟩ := oth_f h0 h9 hns k p (n + 1) (hu.2.2 p hp) (by omega) (by omega)
          rw [hj] at ep
          refine ⟨.made w (ps.take j ++ [v] ++ ps.drop (j + 1)), m, fn_ret rfl ?_, by omega, ?_⟩
          · show b_otherwise (F_oth f k) (nxS f) [some .deck, some (U.made w ps).d, some (.lst (ns.map U.d)), none, none] n = _
            unfold b_otherwise
            refine (fst _).trans ((bSeq_n ((sIf_f (t0.trans ((tOr_f t1).trans (tEqI_f m4 rfl c4)))).trans rfl)).trans ((bSeq_n (sSet_n (d := .int (j : Nat)) (e2_e (e2_e (eVar_e rfl) rfl (div_i ⟨by decide, by decide⟩)) (eF_e (aCons_e (p2 _ _ rfl) aNil_e) (d := .int (ps.length : Nat)) (by show some (D.int _) = _; rw [List.length_map])) (by rw [mod_i hpi, hj])))).trans ?_))
            have er : (U.made w (ps.take j ++ [v] ++ ps.drop (j + 1))).d = .tup [.str "made", .str w, .tup ((ps.map U.d).take j ++ [U.d v] ++ (ps.map U.d).drop (j + 1))] := by
              rw [U.d_made, List.map_append, List.map_append, List.map_take, List.map_drop]; rfl
            rw [er]
            have sl1 : ∀ (ρ : Sd) (m : Nat), ρ[1]? = some (some (U.made w ps).d) → ρ[4]? = some (some (.int (j : Nat))) → eSl (e2 fIx (eVar 1) (eC (.int 2))) (fun _ => Mp none) (pSome (eVar 4)) ρ m = some (.tup ((ps.map U.d).take j), m) := fun ρ m r1 r4 => by
              unfold eSl Mb
              rw [p2 ρ m r1]
              simp only [Mp, pSome, Mb, eVar_e r4]
              show Mo (some (D.tup (cutD (ps.map U.d) none (some (j : Int))))) m = _
              rw [cut_take (by rw [List.length_map]; omega)]; rfl
            have sl2 : ∀ (ρ : Sd) (m : Nat), ρ[1]? = some (some (U.made w ps).d) → ρ[4]? = some (some (.int (j : Nat))) → eSl (e2 fIx (eVar 1) (eC (.int 2))) (pSome (e2 fAdd (eVar 4) (eC (.int 1)))) (fun _ => Mp none) ρ m = some (.tup ((ps.map U.d).drop (j + 1)), m) := fun ρ m r1 r4 => by
              unfold eSl Mb
              rw [p2 ρ m r1]
              have e4 : e2 fAdd (eVar 4) (eC (.int 1)) ρ m = some (.int ((j + 1 : Nat)), m) := e2_e (eVar_e r4) rfl rfl
              simp only [Mp, pSome, Mb, e4]
              show Mo (some (D.tup (cutD (ps.map U.d) (some ((j + 1 : Nat) : Int)) none))) m = _
              rw [cut_drop (by rw [List.length_map]; omega)]; rfl
            refine sRet_r (eTup_e (aCons_e rfl (aCons_e (e2_e (eVar_e rfl) rfl (ix_made1 w ps)) (aCons_e (e2_e (e2_e (sl1 _ _ rfl rfl) (eTup_e (aCons_e (eCall_e (aCons_e (eVar_e rfl) (aCons_e (e2_e (p2 _ _ rfl) (eVar_e rfl) ep) (aCons_e (eVar_e rfl) aNil_e))) ev) aNil_e)) (add_tup (by simp; omega))) (sl2 _ _ rfl rfl) (add_tup (by simp; omega))) aNil_e))))
          · rw [show k + 1 + e = (k + e) + 1 by omega]
            refine ⟨hu.1, by simp; omega, fun q hq => ?_⟩
            rcases List.mem_append.mp hq with h | h
            · rcases List.mem_append.mp h with h | h
              · exact U.ok_mono (by omega) (hu.2.2 q (List.mem_of_mem_take h))
              · rw [List.mem_singleton.mp h]; exact hv
            · exact U.ok_mono (by omega) (hu.2.2 q (List.mem_of_mem_drop h))
end
end Sh


set_option Elab.async false
set_option linter.all false
set_option maxRecDepth 100000
namespace Sh
open PySem L2 Nf
theorem sz7 {u : U} (h : U.ok 7 u) : u.sz ≤ 500000 := Nat.le_trans (U.sz_le h) (by decide)
theorem ok12 {u : U} (h : U.ok 7 u) : U.ok 12 u := U.ok_mono (by decide) h
theorem pair_ok {u v : U} {ρ : Sd} {n : Nat} (hu : U.ok 7 u) (hv : U.ok 7 v) (h1 : ρ[10]? = some (some u.d)) (h2 : ρ[11]? = some (some v.d)) :
    l1_law (F_same 4) F_verdict (F_lv 7) ρ n = some (.next ρ, n) := by
  unfold l1_law
  refine (sIf_f (tNt_e (b := true) (trB_e (x := .bl true) (eCall_e (aCons_e (eCall_e (aCons_e (eVar_e h1) (aCons_e (eVar_e h2) aNil_e)) (verdict_f (ok12 hu) (ok12 hv) (sz7 hu))) (aCons_e (eCall_e (aCons_e (eVar_e h1) (aCons_e (eVar_e h2) aNil_e)) (lv_f 7 u v n hu (ok12 hv) (by decide))) aNil_e)) (same_refl 4 _ n (vd_sd _ _))) rfl))).trans rfl
theorem pairs_ok {u v : U} {x0 x1 x2 x3 x4 x5 x6 x9 x10 x11 x12 x13 : Option D} {n : Nat} (hu : U.ok 7 u) (hv : U.ok 7 v) :
    sFor (iSeq (eLst (aCons (eTup (aCons (eVar 7) (aCons (eVar 8) aNil))) (aCons (eTup (aCons (eVar 8) (aCons (eVar 7) aNil))) (aCons (eTup (aCons (eVar 7) (aCons (eVar 7) aNil))) aNil))))) (gT (gsC (gN 10) (gsC (gN 11) gsN))) (l1_law (F_same 4) F_verdict (F_lv 7))
      [x0, x1, x2, x3, x4, x5, x6, some u.d, some v.d, x9, x10, x11, x12, x13] n = some (.next [x0, x1, x2, x3, x4, x5, x6, some u.d, some v.d, x9, some u.d, some u.d, x12, x13], n) := by
  refine (sFor_i (iSeq_e (eLst_e (aCons_e (eTup_e (aCons_e (eVar_e rfl) (aCons_e (eVar_e rfl) aNil_e))) (aCons_e (eTup_e (aCons_e (eVar_e rfl) (aCons_e (eVar_e rfl) aNil_e))) (aCons_e (eTup_e (aCons_e (eVar_e rfl) (aCons_e (eVar_e rfl) aNil_e))) aNil_e)))) (items_lst (by simp)))).trans ?_
  refine (fM_next (ρ1 := [x0, x1, x2, x3, x4, x5, x6, some u.d, some v.d, x9, some u.d, some v.d, x12, x13]) rfl (pair_ok hu hv rfl rfl)).trans ?_
  refine (fM_next (ρ1 := [x0, x1, x2, x3, x4, x5, x6, some u.d, some v.d, x9, some v.d, some u.d, x12, x13]) rfl (pair_ok hv hu rfl rfl)).trans ?_
  refine (fM_next (ρ1 := [x0, x1, x2, x3, x4, x5, x6, some u.d, some v.d, x9, some u.d, some u.d, x12, x13]) rfl (pair_ok hu hu rfl rfl)).trans ?_
  exact fM_nil
theorem self_ok {u : U} {ρ : Sd} {n : Nat} (hu : U.ok 7 u) (h : ρ[7]? = some (some u.d)) :
    sIf (tAn (trB (e2 fIsNot (eCall (F_mades 7) (aCons (eVar 7) aNil)) (eC .non))) (tNt (trB (eCall (F_same 4) (aCons (eCall F_verdict (aCons (eVar 7) (aCons (eVar 7) aNil))) (aCons (eTup (aCons (eC k_YES) (aCons (eCall (F_mades 7) (aCons (eVar 7) aNil)) aNil))) aNil)))))) (sRet (eC (.bl false))) bNil ρ n = some (.next ρ, n) := by
  have em : eCall (F_mades 7) (aCons (eVar 7) aNil) ρ n = some (mD u.mds, n) := eCall_e (aCons_e (eVar_e h) aNil_e) (mades_f 7 u n hu (by decide))
  cases hm : u.mds with
  | none =>
    rw [hm] at em
    exact (sIf_f (tAn_f (trB_e (e2_e em rfl rfl) rfl))).trans rfl
  | some j =>
    rw [hm] at em
    have ev := verdict_f (n := n) (ok12 hu) (ok12 hu) (sz7 hu)
    rw [vf_self u j hm] at ev
    refine (sIf_f ((tAn_t (trB_e (x := .bl true) (e2_e em rfl rfl) rfl)).trans (tNt_e (b := true) (trB_e (x := .bl true) (eCall_e (aCons_e (eCall_e (aCons_e (eVar_e h) (aCons_e (eVar_e h) aNil_e)) ev) (aCons_e (eTup_e (aCons_e rfl (aCons_e em aNil_e))) aNil_e)) (same_refl 4 _ n (vd_sd _ _))) rfl)))).trans rfl
theorem eq_YES : fEq k_YES (.tup [.str "made", .str "yes", .tup []]) = some (.bl true) := by
  unfold fEq k_YES
  rw [eqb_tup rfl rfl yes_sh yes_sh, show PyData.eqv (.tuple [.str "made", .str "yes", .tuple []]) (.tuple [.str "made", .str "yes", .tuple []]) = true by decide +kernel]; rfl
theorem eq_NO : fEq k_NO (.tup [.str "made", .str "no", .tup []]) = some (.bl true) := by
  unfold fEq k_NO
  rw [eqb_tup rfl rfl no_sh no_sh, show PyData.eqv (.tuple [.str "made", .str "no", .tuple []]) (.tuple [.str "made", .str "no", .tuple []]) = true by decide +kernel]; rfl
section
variable {f : Nat → Int} (hf : ∀ n, 0 ≤ f n ∧ f n < 1000)
include hf
theorem turn_ok {ks : List Kd} (hks : KsOk ks) {x0 x4 x5 x6 x7 x8 x9 x10 x11 x12 x13 : Option D} {n : Nat} (hn : n + 200 ≤ 2 ^ 40) :
    ∃ (y5 y6 y7 y8 y9 y10 y11 : Option D) (m : Nat), l2_law (nxS f) (F_some f 5) (F_oth f 5) (F_same 4) F_verdict (F_lv 7) (F_mades 7)
      [x0, some .deck, some (.tup (ks.map Kd.d)), some (.lst ((own ks).map .str)), x4, x5, x6, x7, x8, x9, x10, x11, x12, x13] n =
      some (.next [x0, some .deck, some (.tup (ks.map Kd.d)), some (.lst ((own ks).map .str)), x4, y5, y6, y7, y8, y9, y10, y11, x12, x13], m) ∧ m ≤ n + 200 := by
  have h1 := hf n
  have l3 : (own ks).length ≤ 4 ∧ 0 < (own ks).length := by
    unfold own; rw [List.length_append, List.length_map]; have := hks.2.1; simp; omega
  have hml : (0 : Int) < ((own ks).length : Int) := by omega
  have hrm := mod_range (k := f n / 8) hml
  obtain ⟨kd, ekd, hkd, _⟩ := ix_lst (f := D.str) (xs := own ks) (i := f n / 8 % ((own ks).length : Int)) hrm.1 hrm.2
  have h5 := mod_range (k := f n / 40) (m := 5) (by decide)
  obtain ⟨far, hfar⟩ : ∃ j : Nat, f n / 40 % 5 = (j : Nat) := ⟨(f n / 40 % 5).toNat, by omega⟩
  have hs4 : sc far ≤ 121 := by
    have : far = 0 ∨ far = 1 ∨ far = 2 ∨ far = 3 ∨ far = 4 := by omega
    rcases this with rfl | rfl | rfl | rfl | rfl <;> decide
  obtain ⟨u, m1, eu, hm1, hu0⟩ := some_f hf hks 5 far kd (decide (f n % 2 = 0)) (n + 1) (by omega) hkd (by omega)
  have hu5 : U.ok 5 u := U.ok_mono (by omega) hu0
  have hu : U.ok 7 u := U.ok_mono (by omega) hu0
  have start : ∀ t : Bd, bSeq (sSet 5 (eCall (nxS f) (aCons (eVar 1) aNil)))
      (bSeq (sSet 6 (e2 fIx (eVar 3) (e2 fMod (e2 fDiv (eVar 5) (eC (.int 8))) (eF (f1 fLen) (aCons (eVar 3) aNil)))))
      (bSeq (sSet 7 (eCall (F_some f 5) (aCons (eVar 1) (aCons (eVar 2) (aCons (eVar 6) (aCons (e2 fMod (e2 fDiv (eVar 5) (eC (.int 40))) (eC (.int 5))) (aCons (e2 fEq (e2 fMod (eVar 5) (eC (.int 2))) (eC (.int 0))) aNil)))))))
      (bSeq (sSet 8 (eVar 7)) t)))
      [x0, some .deck, some (.tup (ks.map Kd.d)), some (.lst ((own ks).map .str)), x4, x5, x6, x7, x8, x9, x10, x11, x12, x13] n =
      t [x0, some .deck, some (.tup (ks.map Kd.d)), some (.lst ((own ks).map .str)), x4, some (.int (f n)), some (.str kd), some u.d, some u.d, x9, x10, x11, x12, x13] m1 := fun t =>
    (bSeq_n (sSet_n (eCall_e (aCons_e (eVar_e rfl) aNil_e) (nx_e (by omega))))).trans
      ((bSeq_n (sSet_n (e2_e (eVar_e rfl) (e2_e (e2_e (eVar_e rfl) rfl (div_i ⟨by decide, by decide⟩)) (eF_e (aCons_e (eVar_e rfl) aNil_e) (d := .int ((own ks).length : Nat)) (by show some (D.int _) = _; rw [List.length_map])) (mod_i hml)) ekd))).trans
      ((bSeq_n (sSet_n (eCall_e (aCons_e (eVar_e rfl) (aCons_e (eVar_e rfl) (aCons_e (eVar_e rfl) (aCons_e (e2_e (e2_e (eVar_e rfl) rfl (div_i ⟨by decide, by decide⟩)) rfl (z := .int (far : Nat)) (by rw [mod_i (by decide), hfar])) (aCons_e (e2_e (e2_e (eVar_e rfl) rfl (mod_i (by decide))) rfl eq_int) aNil_e))))) eu))).trans
      (bSeq_n (sSet_n (eVar_e rfl)))))
  have ending : ∀ (v : U) (z9 : Option D) (m : Nat), U.ok 7 v → bSeq (sFor (iSeq (eLst (aCons (eTup (aCons (eVar 7) (aCons (eVar 8) aNil))) (aCons (eTup (aCons (eVar 8) (aCons (eVar 7) aNil))) (aCons (eTup (aCons (eVar 7) (aCons (eVar 7) aNil))) aNil))))) (gT (gsC (gN 10) (gsC (gN 11) gsN))) (l1_law (F_same 4) F_verdict (F_lv 7)))
      (sIf (tAn (trB (e2 fIsNot (eCall (F_mades 7) (aCons (eVar 7) aNil)) (eC .non))) (tNt (trB (eCall (F_same 4) (aCons (eCall F_verdict (aCons (eVar 7) (aCons (eVar 7) aNil))) (aCons (eTup (aCons (eC k_YES) (aCons (eCall (F_mades 7) (aCons (eVar 7) aNil)) aNil))) aNil)))))) (sRet (eC (.bl false))) bNil)
      [x0, some .deck, some (.tup (ks.map Kd.d)), some (.lst ((own ks).map .str)), x4, some (.int (f n)), some (.str kd), some u.d, some v.d, z9, x10, x11, x12, x13] m =
      some (.next [x0, some .deck, some (.tup (ks.map Kd.d)), some (.lst ((own ks).map .str)), x4, some (.int (f n)), some (.str kd), some u.d, some v.d, z9, some u.d, some u.d, x12, x13], m) := fun v z9 m hv =>
    (bSeq_n (pairs_ok hu hv)).trans (self_ok hu rfl)
  have m4 : ∀ (x7 x8 : Option D) (m : Nat), e2 fMod (e2 fDiv (eVar 5) (eC (.int 2))) (eC (.int 4)) [x0, some .deck, some (.tup (ks.map Kd.d)), some (.lst ((own ks).map .str)), x4, some (.int (f n)), some (.str kd), x7, x8, x9, x10, x11, x12, x13] m = some (.int (f n / 2 % 4), m) := fun _ _ m => e2_e (e2_e (eVar_e rfl) rfl (div_i ⟨by decide, by decide⟩)) rfl (mod_i (by decide))
  have gt : ∀ (x7 x8 : Option D) (m : Nat), trB (e2 fGt (e2 fMod (e2 fDiv (eVar 5) (eC (.int 2))) (eC (.int 4))) (eC (.int 1))) [x0, some .deck, some (.tup (ks.map Kd.d)), some (.lst ((own ks).map .str)), x4, some (.int (f n)), some (.str kd), x7, x8, x9, x10, x11, x12, x13] m = some (decide (1 < f n / 2 % 4), m) := fun x7 x8 m => trB_e (x := .bl (decide (1 < f n / 2 % 4))) (e2_e (m4 x7 x8 m) rfl rfl) rfl
  unfold l2_law
  by_cases c1 : f n / 2 % 4 = 1
  · obtain ⟨v, m2, ev, hm2, hv⟩ := some_f hf hks 5 3 kd true m1 (by decide) hkd (by show m1 + 40 ≤ _; omega)
    have hm2' : m2 ≤ m1 + 40 := hm2
    refine ⟨_, _, _, _, _, _, _, m2, (start _).trans ((bSeq_n ((sIf_t (tEqI_t (m4 _ _ _) rfl c1)).trans (sSet_n (eCall_e (aCons_e (eVar_e rfl) (aCons_e (eVar_e rfl) (aCons_e (eVar_e rfl) (aCons_e rfl (aCons_e rfl aNil_e))))) ev)))).trans ((bSeq_n ((sIf_f ((gt _ _ _).trans (by rw [decide_eq_false (by omega)]))).trans rfl)).trans (ending v _ _ (U.ok_mono (by omega) hv)))), by omega⟩
  · by_cases c2 : 1 < f n / 2 % 4
    · obtain ⟨ys, m2, e3, hm, hly, hys⟩ := lcM_inv (g := gN 13) (te := eCall (F_some f 5) (aCons (eVar 1) (aCons (eVar 2) (aCons (eVar 13) (aCons (eC (.int 1)) (aCons (eC (.bl true)) aNil))))))
          (ρ := [x0, some .deck, some (.tup (ks.map Kd.d)), some (.lst ((own ks).map .str)), x4, some (.int (f n)), some (.str kd), some u.d, some u.d, x9, x10, x11, x12, none])
          (f := D.str) (c := 4) (fun y => ∃ u, y = U.d u ∧ U.ok 2 u) (own ks) m1 (by omega) (fun x hx => ⟨_, rfl, fun n' hn' => by
            obtain ⟨v, m, ev, hm, hv⟩ := some_f hf hks 5 1 x true n' (by decide) hx hn'
            exact ⟨U.d v, m, eCall_e (aCons_e (eVar_e rfl) (aCons_e (eVar_e rfl) (aCons_e (eVar_e rfl) (aCons_e rfl (aCons_e rfl aNil_e))))) ev, hm, v, rfl, hv⟩⟩)
      obtain ⟨us, rfl, hus⟩ := us_of ys hys
      rw [List.length_map] at hly
      obtain ⟨v, m3, ev, hm3, hv⟩ := oth_f hf (ns := [U.skip, U.name "q"] ++ us) (e := 2) (by simp) (by simp; omega) (fun w hw => by
        rcases List.mem_append.mp hw with h | h
        · have : w = U.skip ∨ w = U.name "q" := by simpa using h
          rcases this with rfl | rfl
          · exact True.intro
          · show okS "q"; decide +kernel
        · exact hus w h) 5 u m2 hu5 (by decide) (by omega)
      refine ⟨_, _, _, _, _, _, _, m3, (start _).trans ((bSeq_n ((sIf_f (tEqI_f (m4 _ _ _) rfl c1)).trans rfl)).trans ((bSeq_n ((sIf_t ((gt _ _ _).trans (by rw [decide_eq_true c2]))).trans ((bSeq_n (sSet_n (eLc_e (iSeq_e (eVar_e rfl) (items_lst (by rw [List.length_map]; omega))) e3))).trans (sSet_n (eCall_e (aCons_e (eVar_e rfl) (aCons_e (eVar_e rfl) (aCons_e (e2_e (eLst_e (aCons_e (eTup_e (aCons_e rfl aNil_e)) (aCons_e (eTup_e (aCons_e rfl (aCons_e rfl aNil_e))) aNil_e))) (eVar_e rfl) (z := .lst (([U.skip, U.name "q"] ++ us).map U.d)) ?_) aNil_e))) ev))))).trans (ending v _ _ hv))), by omega⟩
      rw [add_lst (by simp; omega), List.map_append, List.map_cons, List.map_cons, U.d_skip, U.d_name]; rfl
    · refine ⟨_, _, _, _, _, _, _, m1, (start _).trans ((bSeq_n ((sIf_f (tEqI_f (m4 _ _ _) rfl c1)).trans rfl)).trans ((bSeq_n ((sIf_f ((gt _ _ _).trans (by rw [decide_eq_false c2]))).trans rfl)).trans (ending u _ _ hu))), by omega⟩
theorem law_f {x0 : Option D} : ∃ m, b_law (F_same 4) (F_mades 7) F_verdict (F_lv 7) (F_oth f 5) (F_some f 5) (nxS f) (F_kinds f) [x0, some .deck, none, none, none, none, none, none, none, none, none, none, none, none] 0 = some (.ret (.bl true), m) := by
  obtain ⟨ks, m, ek, hm, hks⟩ := kinds_f hf (n := 0) (by decide)
  obtain ⟨ρ', m', h1, y4, y5, y6, y7, y8, y9, y10, y11, rfl, h2⟩ := fM_inv (g := gN 4) (b := l2_law (nxS f) (F_some f 5) (F_oth f 5) (F_same 4) F_verdict (F_lv 7) (F_mades 7)) (fun i ρ n => ∃ y4 y5 y6 y7 y8 y9 y10 y11 : Option D, ρ = [x0, some .deck, some (.tup (ks.map Kd.d)), some (.lst ((own ks).map .str)), y4, y5, y6, y7, y8, y9, y10, y11, none, none] ∧ n ≤ m + 200 * i) (rngD 0 4) 0
    [x0, some .deck, some (.tup (ks.map Kd.d)), some (.lst ((own ks).map .str)), none, none, none, none, none, none, none, none, none, none] m ⟨_, _, _, _, _, _, _, _, rfl, by omega⟩ (by
      rintro j d ρ n hj ⟨y4, y5, y6, y7, y8, y9, y10, y11, rfl, hn⟩
      obtain ⟨rfl, hjr⟩ := rngD_get hj
      obtain ⟨z5, z6, z7, z8, z9, z10, z11, n', e, hn'⟩ := turn_ok hf hks (x0 := x0) (x4 := some (.int (0 + j))) (x5 := y5) (x6 := y6) (x7 := y7) (x8 := y8) (x9 := y9) (x10 := y10) (x11 := y11) (x12 := none) (x13 := none) (n := n) (by omega)
      exact ⟨_, _, n', rfl, e, _, _, _, _, _, _, _, _, rfl, by omega⟩)
  refine ⟨m', ?_⟩
  unfold b_law
  refine (bSeq_n (sSet_n (eCall_e (aCons_e (eVar_e rfl) aNil_e) ek))).trans ((bSeq_n (sSet_n (e2_e (eLc_e (iSeq_e (eVar_e rfl) (items_tup (by have := hks.2.1; rw [List.length_map]; omega))) (lcM_map (h := fun k => .str k.k) ks fun k hk => ⟨_, rfl, e2_e (eVar_e rfl) rfl rfl⟩)) (eLst_e (aCons_e rfl aNil_e)) (z := .lst ((own ks).map .str)) ?_))).trans ?_)
  · have := hks.2.1
    rw [add_lst (by simp; omega)]
    unfold own
    rw [List.map_append, List.map_map]
    rfl
  · refine (bSeq_n ((sFor_i (i1_e rfl (r1_e (by decide)))).trans h1)).trans (sRet_r ((vAn_t (e2_e rfl (eTup_e (aCons_e rfl (aCons_e rfl (aCons_e (eTup_e aNil_e) aNil_e)))) eq_YES) rfl).trans (e2_e rfl (eTup_e (aCons_e rfl (aCons_e rfl (aCons_e (eTup_e aNil_e) aNil_e)))) eq_NO)))
end
end Sh


set_option Elab.async false
set_option linter.all false
set_option maxRecDepth 100000
namespace Sh
open PySem L2 Nf
theorem _root_.L2.PSs.all {X : Cx} {st : List Stmt} {ι : Type} {t : ι → TS} (h : ∀ i, PSs X st (t i)) : PSs X st (fun E σ H => ∃ i, t i E σ H) := ⟨fun pins s σ H Q I ⟨i, q⟩ => (h i).run pins s σ H Q I q⟩
structure LawI where
  d : Addr
  g : Addr
  c : Addr
  cs : List Int
  rs : List Int
  H0 : Hp
  R0 : Hp
def spLaw (K : PySem.W.Frag) : Sp := fun vs H Q _ => ∃ (a : Addr) (ns : List Int), vs = [.ref a] ∧ SqL K H a (ns.map V.int) ∧ ns.length ≤ 63 ∧ ∀ H', Q (.bl true) H'
section
variable {P : Program} {w : World} {K : PySem.W.Frag} {mg : Str → Option Value} {base : Heap}
theorem never {k : Nat} {f : Addr} {fd : FuncData} {ps : List Str} {c : Cn} {W : Wd} : FnOk P w K mg base CX0 k f fd ps (spM c W fun _ _ => none) := fn_never fun vs H Q E ⟨R, ds, r, n, n', f, hp, e, q⟩ => nomatch e
variable {a0 a1 a2 a3 a4 a5 a6 a7 a8 a9 a10 a11 : Addr} {d0 d1 d2 d3 d4 d5 d6 d7 d8 d9 d10 d11 : FuncData}
theorem ok_law (T : Bt mg) (g_NO : GlobD K mg "NO" k_NO) (g_YES : GlobD K mg "YES" k_YES) (C_law : Cal K mg "law" s_law P_law a0 d0) (C_deck : Cal K mg "_law_deck" s_deck P_deck a1 d1) (C_next : Cal K mg "_law_next" s_next P_next a2 d2)
    (C_same : Cal K mg "_law_same" s_same P_same a3 d3) (C_mades : Cal K mg "_law_mades" s_mades P_mades a4 d4) (C_verdict : Cal K mg "verdict" s_verdict P_verdict a5 d5) (C_l_verdict : Cal K mg "_law_verdict" s_l_verdict P_l_verdict a6 d6)
    (C_otherwise : Cal K mg "_law_otherwise" s_otherwise P_otherwise a7 d7) (C_some : Cal K mg "_law_some" s_some P_some a8 d8) (C_makers : Cal K mg "_law_makers" s_makers P_makers a9 d9) (C_kinds : Cal K mg "_law_kinds" s_kinds P_kinds a10 d10) (C_word : Cal K mg "_law_word" s_word P_word a11 d11) :
    FnOk P w K mg base CX0 9 a0 d0 P_law (spLaw K) := by
  refine C_law.F.ok sc_law (fun vs H Q E h => ?_) (fun cdv A outer s H vs Q E hr h => ?_)
  · obtain ⟨a, ns, rfl, _⟩ := h
    rfl
  obtain ⟨a, ns, rfl, hS, h63, q⟩ := h
  have G_deck := ok_deck (P := P) (w := w) (base := base) T C_deck
  have tail : ∀ i : LawI, PSs (cxOf CX0 P w K mg base N_law "law" (defScope s_law) a0 cdv A outer s H E).nox ((defBody s_law).drop 1) (upS ⟨⟨K, i.d⟩, Wdk i.d i.g i.c i.cs i.rs, ow_law, i.H0, i.R0⟩
      (b_law (F_same 4) (F_mades 7) F_verdict (F_lv 7) (F_oth (strm i.cs i.rs) 5) (F_some (strm i.cs i.rs) 5) (nxS (strm i.cs i.rs)) (F_kinds (strm i.cs i.rs)))) := fun i => by
    have G_next : FnOk P w K mg base CX0 1 a2 d2 P_next (spM ⟨K, i.d⟩ (Wdk i.d i.g i.c i.cs i.rs) (nxS (strm i.cs i.rs))) := ok_nextM (ok_next T C_next)
    have G_same : ∀ n, FnOk P w K mg base CX0 n a3 d3 P_same (spM ⟨K, i.d⟩ (Wdk i.d i.g i.c i.cs i.rs) (F_same n)) := fun n => by
      induction n with
      | zero => exact never
      | succ k ih => exact ok_same T C_same ih
    have G_mades : ∀ n, FnOk P w K mg base CX0 n a4 d4 P_mades (spM ⟨K, i.d⟩ (Wdk i.d i.g i.c i.cs i.rs) (F_mades n)) := fun n => by
      induction n with
      | zero => exact never
      | succ k ih => exact ok_mades T C_mades ih
    have G_lv : ∀ n, FnOk P w K mg base CX0 n a6 d6 P_l_verdict (spM ⟨K, i.d⟩ (Wdk i.d i.g i.c i.cs i.rs) (F_lv n)) := fun n => by
      induction n with
      | zero => exact never
      | succ k ih => exact ok_l_verdict T C_l_verdict ih
    have G_verdict : FnOk P w K mg base CX0 1 a5 d5 P_verdict (spM ⟨K, i.d⟩ (Wdk i.d i.g i.c i.cs i.rs) F_verdict) := ok_verdict (k := 0) T C_verdict g_YES g_NO
    have G_makers : FnOk P w K mg base CX0 1 a9 d9 P_makers (spM ⟨K, i.d⟩ (Wdk i.d i.g i.c i.cs i.rs) F_makers) := ok_makers (k := 0) T C_makers
    have G_word : FnOk P w K mg base CX0 1 a11 d11 P_word (spM ⟨K, i.d⟩ (Wdk i.d i.g i.c i.cs i.rs) F_word) := ok_word (k := 0) T C_word
    have G_kinds : FnOk P w K mg base CX0 2 a10 d10 P_kinds (spM ⟨K, i.d⟩ (Wdk i.d i.g i.c i.cs i.rs) (F_kinds (strm i.cs i.rs))) := ok_kinds T C_kinds C_word G_word C_next G_next
    have G_some : ∀ n, FnOk P w K mg base CX0 (n + 1) a8 d8 P_some (spM ⟨K, i.d⟩ (Wdk i.d i.g i.c i.cs i.rs) (F_some (strm i.cs i.rs) n)) := fun n => by
      induction n with
      | zero => exact never
      | succ k ih => exact ok_some T C_some ih C_makers (G_makers.mono (by omega)) C_next (G_next.mono (by omega))
    have G_oth : ∀ n, FnOk P w K mg base CX0 (n + 1) a7 d7 P_otherwise (spM ⟨K, i.d⟩ (Wdk i.d i.g i.c i.cs i.rs) (F_oth (strm i.cs i.rs) n)) := fun n => by
      induction n with
      | zero => exact never
      | succ k ih => exact ok_otherwise T C_otherwise ih C_next (G_next.mono (by omega))
    exact (db_law (k := 8) (a_law := a0) (d_law := d0) T C_same ((G_same 4).mono (by omega)) C_mades ((G_mades 7).mono (by omega)) C_verdict (G_verdict.mono (by omega)) C_l_verdict ((G_lv 7).mono (by omega)) C_otherwise ((G_oth 5).mono (by omega)) C_some ((G_some 5).mono (by omega)) C_next (G_next.mono (by omega)) C_kinds (G_kinds.mono (by omega)) g_NO g_YES cdv A outer s H E i.H0 i.R0 hr).p
  refine ⟨_, PSs.nox (pss_cons (ps_set (i := 1) sc_law.nd rfl (Or.inr rfl) (pe_call G_deck (hr.mono (by omega)) (by rfl) C_deck.m C_deck.F.kp C_deck.b .nil pass0 (pa_cons (pv 0) pa_nil))) (PSs.all tail)), ?_⟩
  refine ⟨_, rfl, a, ns, rfl, hS, h63, fun d g c cs rs H1 D1 S1 hd hg hc => ?_⟩
  obtain ⟨m, em⟩ := law_f (f := strm cs rs) (fun n => strm_range cs rs n) (x0 := none)
  refine ⟨⟨d, g, c, cs, rs, H1, fun _ => none⟩, fun _ => none, _, 0, _, m, ⟨rfl, fun i e _ he => ?_, fun i e hi => (nomatch hi), fun i j b e e' hi => (nomatch hi), ⟨fun _ _ z => (nomatch z), fun _ _ => rfl, fun x hx => ?_, D1, Keep.refl _ _, Same.refl _, fun x z => absurd rfl z⟩⟩, em, fun v R' H' _ z => ?_⟩
  · have hi : i = 1 := by
      match i, he with
      | 0, he => cases he
      | 1, _ => rfl
      | i + 2, he =>
        exfalso
        have : ∀ j, ([none, none, none, none, none, none, none, none, none, none, none, none] : List (Option D))[j]? ≠ some (some e) := fun j hj => by
          have := List.mem_of_getElem? hj
          simp at this
        exact this i he
    subst hi
    cases he
    exact ⟨.ref d, rfl, .deck⟩
  · exact (Wdk d g c cs rs).there 0 H1 D1 x hx
  · cases z
    exact q H'
end
end Sh


set_option Elab.async false
set_option linter.all false
set_option maxRecDepth 100000
set_option maxHeartbeats 0
namespace Sh
open PySem L2 Nf
def dd_verdict : He.DefD := ⟨("verdict", none), "verdict", "verdict", defArgs s_verdict, defBody s_verdict, defScope s_verdict, [], []⟩
def dd_deck : He.DefD := ⟨("_law_deck", none), "_law_deck", "_law_deck", defArgs s_deck, defBody s_deck, defScope s_deck, [], []⟩
def dd_next : He.DefD := ⟨("_law_next", none), "_law_next", "_law_next", defArgs s_next, defBody s_next, defScope s_next, [], []⟩
def dd_word : He.DefD := ⟨("_law_word", none), "_law_word", "_law_word", defArgs s_word, defBody s_word, defScope s_word, [], []⟩
def dd_kinds : He.DefD := ⟨("_law_kinds", none), "_law_kinds", "_law_kinds", defArgs s_kinds, defBody s_kinds, defScope s_kinds, [], []⟩
def dd_makers : He.DefD := ⟨("_law_makers", none), "_law_makers", "_law_makers", defArgs s_makers, defBody s_makers, defScope s_makers, [], []⟩
def dd_some : He.DefD := ⟨("_law_some", none), "_law_some", "_law_some", defArgs s_some, defBody s_some, defScope s_some, [], []⟩
def dd_same : He.DefD := ⟨("_law_same", none), "_law_same", "_law_same", defArgs s_same, defBody s_same, defScope s_same, [], []⟩
def dd_l_verdict : He.DefD := ⟨("_law_verdict", none), "_law_verdict", "_law_verdict", defArgs s_l_verdict, defBody s_l_verdict, defScope s_l_verdict, [], []⟩
def dd_otherwise : He.DefD := ⟨("_law_otherwise", none), "_law_otherwise", "_law_otherwise", defArgs s_otherwise, defBody s_otherwise, defScope s_otherwise, [], []⟩
def dd_mades : He.DefD := ⟨("_law_mades", none), "_law_mades", "_law_mades", defArgs s_mades, defBody s_mades, defScope s_mades, [], []⟩
def dd_law : He.DefD := ⟨("law", none), "law", "law", defArgs s_law, defBody s_law, defScope s_law, [], []⟩
def fns : List He.DefD := [dd_verdict, dd_deck, dd_next, dd_word, dd_kinds, dd_makers, dd_some, dd_same, dd_l_verdict, dd_otherwise, dd_mades, dd_law]
def fas : List He.Fa := [.glo "verdict", .glo "_law_deck", .glo "_law_next", .glo "_law_word", .glo "_law_kinds", .glo "_law_makers", .glo "_law_some", .glo "_law_same", .glo "_law_verdict", .glo "_law_otherwise", .glo "_law_mades", .glo "law", .free "len", .free "abs", .free "range", .free "zip", .free "isinstance", .free "all", .free "tuple", .free "str", .free "int", .free "bool", .free "enumerate", .free "list", .free "dict", .free "any", .free "sum", .free "max", .free "min"]
def loose : List PySem.Str := ["verdict", "_law_deck", "_law_next", "_law_word", "_law_kinds", "_law_makers", "_law_some", "_law_same", "_law_verdict", "_law_otherwise", "_law_mades", "YES", "NO"]
def exB (K : PySem.W.Frag) : Bool := gB K "YES" k_YES && gB K "NO" k_NO
abbrev R : PySem.W.OpenRow := PySem.W.OpenLaw.row PySem.Challenge.rw_needfill_k19_verdicts
abbrev hk : PySem.W.Hook := hookB 4 fas fns exB
def ob (s : PySem.W.SharedT) : AlB := obsB 4 fas fns exB (HandSHeadRun.getT s)
theorem ob_eq (s : PySem.W.SharedT) : ob s = hk.obs s.abs := obsB_eq (HandSHeadRun.getT_eq s)
theorem run (w : World) : HandSHeadRun.RunEq R (PySem.W.view R.prog [15]) hk ob 3000 loose w := by
  intro os
  kernel_rfl
theorem facts {P : Program} {w : World} {K : PySem.W.Frag} {h : Heap} {mg : Str → Option Value} {f : Addr} (X : K.In h) (G : h.Ns mainGlobals mg) (hfa : mg ("law" : Str) = some (.ref f)) (c : He.SaysD fas fns K) (cx : exB K = true) :
    ∃ fd : FuncData, (∀ (s : Shared) (v : Value), BindsTo s fd ⟨[v], []⟩ [("_law_script", v)]) ∧ ∀ base : Heap, K.In base → base.Ns mainGlobals mg → FnOk P w K mg base CX0 9 f fd ["_law_script"] (spLaw K) := by
  obtain ⟨e_verdict, F0_verdict⟩ := c.def_ 0 (d := dd_verdict) rfl
  have C_verdict : Cal K mg "verdict" s_verdict P_verdict _ e_verdict := ⟨F0_verdict, He.glo_ok X G (c.fact 0 (f := .glo "verdict") rfl), FunD.bindsN (ps := P_verdict) F0_verdict fun _ _ _ _ _ _ us hl => match us, hl with | [_, _], _ => rfl⟩
  obtain ⟨e_deck, F0_deck⟩ := c.def_ 1 (d := dd_deck) rfl
  have C_deck : Cal K mg "_law_deck" s_deck P_deck _ e_deck := ⟨F0_deck, He.glo_ok X G (c.fact 1 (f := .glo "_law_deck") rfl), FunD.bindsN (ps := P_deck) F0_deck fun _ _ _ _ _ _ us hl => match us, hl with | [_], _ => rfl⟩
  obtain ⟨e_next, F0_next⟩ := c.def_ 2 (d := dd_next) rfl
  have C_next : Cal K mg "_law_next" s_next P_next _ e_next := ⟨F0_next, He.glo_ok X G (c.fact 2 (f := .glo "_law_next") rfl), FunD.bindsN (ps := P_next) F0_next fun _ _ _ _ _ _ us hl => match us, hl with | [_], _ => rfl⟩
  obtain ⟨e_word, F0_word⟩ := c.def_ 3 (d := dd_word) rfl
  have C_word : Cal K mg "_law_word" s_word P_word _ e_word := ⟨F0_word, He.glo_ok X G (c.fact 3 (f := .glo "_law_word") rfl), FunD.bindsN (ps := P_word) F0_word fun _ _ _ _ _ _ us hl => match us, hl with | [_, _, _], _ => rfl⟩
  obtain ⟨e_kinds, F0_kinds⟩ := c.def_ 4 (d := dd_kinds) rfl
  have C_kinds : Cal K mg "_law_kinds" s_kinds P_kinds _ e_kinds := ⟨F0_kinds, He.glo_ok X G (c.fact 4 (f := .glo "_law_kinds") rfl), FunD.bindsN (ps := P_kinds) F0_kinds fun _ _ _ _ _ _ us hl => match us, hl with | [_], _ => rfl⟩
  obtain ⟨e_makers, F0_makers⟩ := c.def_ 5 (d := dd_makers) rfl
  have C_makers : Cal K mg "_law_makers" s_makers P_makers _ e_makers := ⟨F0_makers, He.glo_ok X G (c.fact 5 (f := .glo "_law_makers") rfl), FunD.bindsN (ps := P_makers) F0_makers fun _ _ _ _ _ _ us hl => match us, hl with | [_, _], _ => rfl⟩
  obtain ⟨e_some, F0_some⟩ := c.def_ 6 (d := dd_some) rfl
  have C_some : Cal K mg "_law_some" s_some P_some _ e_some := ⟨F0_some, He.glo_ok X G (c.fact 6 (f := .glo "_law_some") rfl), FunD.bindsN (ps := P_some) F0_some fun _ _ _ _ _ _ us hl => match us, hl with | [_, _, _, _, _], _ => rfl⟩
  obtain ⟨e_same, F0_same⟩ := c.def_ 7 (d := dd_same) rfl
  have C_same : Cal K mg "_law_same" s_same P_same _ e_same := ⟨F0_same, He.glo_ok X G (c.fact 7 (f := .glo "_law_same") rfl), FunD.bindsN (ps := P_same) F0_same fun _ _ _ _ _ _ us hl => match us, hl with | [_, _], _ => rfl⟩
  obtain ⟨e_l_verdict, F0_l_verdict⟩ := c.def_ 8 (d := dd_l_verdict) rfl
  have C_l_verdict : Cal K mg "_law_verdict" s_l_verdict P_l_verdict _ e_l_verdict := ⟨F0_l_verdict, He.glo_ok X G (c.fact 8 (f := .glo "_law_verdict") rfl), FunD.bindsN (ps := P_l_verdict) F0_l_verdict fun _ _ _ _ _ _ us hl => match us, hl with | [_, _], _ => rfl⟩
  obtain ⟨e_otherwise, F0_otherwise⟩ := c.def_ 9 (d := dd_otherwise) rfl
  have C_otherwise : Cal K mg "_law_otherwise" s_otherwise P_otherwise _ e_otherwise := ⟨F0_otherwise, He.glo_ok X G (c.fact 9 (f := .glo "_law_otherwise") rfl), FunD.bindsN (ps := P_otherwise) F0_otherwise fun _ _ _ _ _ _ us hl => match us, hl with | [_, _, _], _ => rfl⟩
  obtain ⟨e_mades, F0_mades⟩ := c.def_ 10 (d := dd_mades) rfl
  have C_mades : Cal K mg "_law_mades" s_mades P_mades _ e_mades := ⟨F0_mades, He.glo_ok X G (c.fact 10 (f := .glo "_law_mades") rfl), FunD.bindsN (ps := P_mades) F0_mades fun _ _ _ _ _ _ us hl => match us, hl with | [_], _ => rfl⟩
  obtain ⟨e_law, F0_law⟩ := c.def_ 11 (d := dd_law) rfl
  have C_law : Cal K mg "law" s_law P_law _ e_law := ⟨F0_law, He.glo_ok X G (c.fact 11 (f := .glo "law") rfl), FunD.bindsN (ps := P_law) F0_law fun _ _ _ _ _ _ us hl => match us, hl with | [_], _ => rfl⟩
  have T : Bt mg := ⟨He.free_ok X G (c.fact 12 (f := .free "len") rfl), He.free_ok X G (c.fact 13 (f := .free "abs") rfl), He.free_ok X G (c.fact 14 (f := .free "range") rfl), He.free_ok X G (c.fact 15 (f := .free "zip") rfl), He.free_ok X G (c.fact 16 (f := .free "isinstance") rfl), He.free_ok X G (c.fact 17 (f := .free "all") rfl), He.free_ok X G (c.fact 18 (f := .free "tuple") rfl), He.free_ok X G (c.fact 19 (f := .free "str") rfl), He.free_ok X G (c.fact 20 (f := .free "int") rfl), He.free_ok X G (c.fact 21 (f := .free "bool") rfl), He.free_ok X G (c.fact 22 (f := .free "enumerate") rfl), He.free_ok X G (c.fact 23 (f := .free "list") rfl), He.free_ok X G (c.fact 24 (f := .free "dict") rfl), He.free_ok X G (c.fact 25 (f := .free "any") rfl), He.free_ok X G (c.fact 26 (f := .free "sum") rfl), He.free_ok X G (c.fact 27 (f := .free "max") rfl), He.free_ok X G (c.fact 28 (f := .free "min") rfl)⟩
  have e := hfa.symm.trans C_law.m
  cases e
  have b := FunD.bindsA (ps := ["_law_script"]) F0_law fun _ _ _ _ _ _ us hl => match us, hl with | [_], _ => rfl
  refine ⟨e_law, fun s v => b s [v] rfl, fun base _ _ => ?_⟩
  obtain ⟨x1, x2⟩ := Bool.and_eq_true_iff.mp cx
  exact ok_law T (gB_ok X G x2) (gB_ok X G x1) C_law C_deck C_next C_same C_mades C_verdict C_l_verdict C_otherwise C_some C_makers C_kinds C_word
end Sh
open PySem PySem.W PySem.Calls PyProof.Rows
set_option maxRecDepth 100000 in
set_option maxHeartbeats 0 in
theorem PySem.Challenge.cw_needfill_k19_verdicts_holds : PySem.Challenge.rw_needfill_k19_verdicts.Holds := by
  w_on; o_law
  refine HandSHeadRun.head_any (r := OpenLaw.row PySem.Challenge.rw_needfill_k19_verdicts) (q := view (OpenLaw.row PySem.Challenge.rw_needfill_k19_verdicts).prog [15]) (H := Sh.hk) (ob := Sh.ob) (M := 3000) (loose := Sh.loose) (d := HandSHeadRun.topDef (OpenLaw.row PySem.Challenge.rw_needfill_k19_verdicts).prog 15) (kwd := []) Sh.ob_eq
    (by kernel_rfl) (fun s => by kernel_rfl) Sh.run (by kernel_rfl) (by kernel_rfl) (by kernel_rfl) (by rfl) (by first | assumption | decide +kernel) (by decide +kernel) ⟨rfl, rfl, rfl, rfl, rfl, by decide +kernel⟩ ?hw ?hc
  case hw => w_witness2
  case hc =>
    refine L2.walk_ofE (l := PySem.Challenge.rw_needfill_k19_verdicts) (n := 63) (k := 9) (x := "_law_script") (CX := L2.CX0) rfl (by decide) (by kernel_rfl) ⟨rfl, by decide, by decide⟩ ?F (fun _ _ _ _ z => z)
    intro w mg fa h Y G hmg0
    obtain ⟨K, KX, c, cx⟩ := Y
    have hmg : mg ("law" : PySem.Str) = some (.ref fa) := by
      have e : (HandSHeadRun.topDef (OpenLaw.row PySem.Challenge.rw_needfill_k19_verdicts).prog 15).name = ("law" : PySem.Str) := by kernel_rfl
      rw [← e]
      exact hmg0
    obtain ⟨fd, hb, hF⟩ := Sh.facts (P := (PySem.Challenge.rw_needfill_k19_verdicts).prog) (w := w) KX G hmg c cx
    exact ⟨K, fd, Sh.spLaw K, KX, hb, fun H a ns hl _ hS => ⟨a, ns, rfl, hS, hl, fun _ => rfl⟩, hF⟩


