import PyProof.Rows.All
import Wide.All
import OpenK.AllK
import Wide.FinOn
import HandS.ForMost
import HandS.Wide
import HandS.IsInst
import HandS.Zip
import HandS.Walk
import HandS.Conv
import HandS.Star
import HandS.DictComp
import HandS.Style
import HandS.Flow
import HandS.TupAny
import HandS.ListItems
import HandS.Defaults
import KE.KStateDown
import Lean
import HandS.More
import HandS.WordsExc
import HandS.Head0
import HandS.Head1
import HandS.Head2
import HandS.HeadEnd
import HandS.HeadHook1
import HandS.HeadHook2
import HandS.Text
import KE.KxIndex
import KE.GoesEnum
import KE.KDictZip
import HandS.SetKeys
import PySem.Challenge.RW_needfill_k49_covered_fills
set_option Elab.async false
set_option linter.all false
set_option maxRecDepth 100000
namespace Nf
open PySem L2

/-! ### heaps: all that was tracked stays, but for some addresses -/
def Keep (D : List Addr) (H H' : Hp) : Prop := ∀ a o, H a = some o → a ∉ D → H' a = some o
theorem Keep.refl (D : List Addr) (H : Hp) : Keep D H H := fun _ _ h _ => h
theorem Keep.trans {D : List Addr} {H H1 H2 : Hp} (a : Keep D H H1) (b : Keep D H1 H2) : Keep D H H2 := fun c o h n => b c o (a c o h n) n
theorem Keep.of_same {D : List Addr} {H H' : Hp} (s : Same H H') : Keep D H H' := fun a o h _ => s a o h
theorem Keep.new {D : List Addr} {H H' : Hp} {p : Addr} {o : HO} (k : Keep D H H') (h : H' p = none) : Keep D H (upd H' p o) := fun a u e n => by
  rw [upd_ne (ne_of_none (k a u e n) h)]; exact k a u e n
theorem Keep.mut {D : List Addr} {H H' : Hp} {p : Addr} {o : HO} (k : Keep D H H') (h : p ∈ D) : Keep D H (upd H' p o) := fun a u e n => by
  have : a ≠ p := fun z => n (z ▸ h)
  rw [upd_ne this]; exact k a u e n
/-- an object that H does not know may change -/
theorem Keep.mutN {D : List Addr} {H H' : Hp} {p : Addr} {o : HO} (k : Keep D H H') (h : H p = none) : Keep D H (upd H' p o) := fun a u e n => by
  rw [upd_ne (ne_of_none e h)]; exact k a u e n
theorem Keep.weak {D E : List Addr} {H H' : Hp} (k : Keep D H H') (s : ∀ a, a ∈ D → a ∈ E) : Keep E H H' := fun a o h n => k a o h fun z => n (s a z)
theorem Keep.same {H H' : Hp} (k : Keep [] H H') : Same H H' := fun a o h => k a o h (by simp)
theorem Keep.free' {D : List Addr} {H H' : Hp} (e : Keep D H H') {l : Addr} (h : H' l = Option.none) (n : l ∉ D) : H l = Option.none := by
  cases q : H l with
  | none => rfl
  | some o =>
    rw [e l o q n] at h
    cases h
theorem same_new {H : Hp} {p : Addr} (h : H p = none) (o : HO) : Same H (upd H p o) := fun b u q => by rw [upd_ne (ne_of_none q h)]; exact q
theorem _root_.L2.Same.new {H H' : Hp} {p : Addr} {o : HO} (k : Same H H') (h : H' p = none) : Same H (upd H' p o) := k.trans (same_new h o)
theorem _root_.L2.Same.mutN {H H' : Hp} {p : Addr} {o : HO} (k : Same H H') (h : H p = none) : Same H (upd H' p o) := fun a u e => by
  rw [upd_ne (ne_of_none e h)]; exact k a u e
theorem _root_.L2.Same.keepN {H H' : Hp} (k : Same H H') : Keep [] H H' := Keep.of_same k

/-- all tuples stay -/
def TupS (H H' : Hp) : Prop := ∀ a xs, H a = some (.tup xs) → H' a = some (.tup xs)
theorem TupS.refl (H : Hp) : TupS H H := fun _ _ h => h
theorem TupS.trans {H H1 H2 : Hp} (a : TupS H H1) (b : TupS H1 H2) : TupS H H2 := fun c o h => b c o (a c o h)
theorem _root_.L2.Same.tups {H H' : Hp} (s : Same H H') : TupS H H' := fun a _ h => s a _ h
/-- no tuple stands at these places -/
def NoTup (D : List Addr) (H : Hp) : Prop := ∀ a ∈ D, ∀ xs, H a ≠ some (.tup xs)
theorem Keep.tups {D : List Addr} {H H' : Hp} (k : Keep D H H') (n : NoTup D H) : TupS H H' := fun a xs h => k a _ h fun m => n a m xs h
theorem TupS.new {H H' : Hp} {p : Addr} {o : HO} (k : TupS H H') (h : H' p = none) : TupS H (upd H' p o) := fun a u e => by
  rw [upd_ne (ne_of_none (k a u e) h)]; exact k a u e
theorem TupS.mutL {H H' : Hp} {p : Addr} {o : HO} {ys : List V} (k : TupS H H') (h : H' p = some (.lst ys)) : TupS H (upd H' p o) := fun a u e => by
  have q := k a u e
  have : a ≠ p := fun z => by rw [z, h] at q; cases q
  rw [upd_ne this]; exact q

/-! ### data of texts, numbers, truths, None and tuples -/
inductive Da where
  | non | bl (b : Bool) | int (i : Int) | str (x : Str) | tup (ds : List Da)
mutual
inductive Is (H : Hp) : V → Da → Prop
  | non : Is H .non .non
  | bl (b : Bool) : Is H (.bl b) (.bl b)
  | int (i : Int) : Is H (.int i) (.int i)
  | str (x : Str) : Is H (.str x) (.str x)
  | tup {a : Addr} {xs : List V} {ds : List Da} : H a = some (.tup xs) → IsA H xs ds → Is H (.ref a) (.tup ds)
inductive IsA (H : Hp) : List V → List Da → Prop
  | nil : IsA H [] []
  | cons {v : V} {vs : List V} {d : Da} {ds : List Da} : Is H v d → IsA H vs ds → IsA H (v :: vs) (d :: ds)
end
mutual
theorem Is.mono {H H' : Hp} (k : TupS H H') : ∀ {v : V} {d : Da}, Is H v d → Is H' v d
  | _, _, .non => .non
  | _, _, .bl b => .bl b
  | _, _, .int i => .int i
  | _, _, .str x => .str x
  | _, _, .tup h q => .tup (k _ _ h) (IsA.mono k q)
theorem IsA.mono {H H' : Hp} (k : TupS H H') : ∀ {v : List V} {d : List Da}, IsA H v d → IsA H' v d
  | _, _, .nil => .nil
  | _, _, .cons h q => .cons (Is.mono k h) (IsA.mono k q)
end
theorem IsA.len {H : Hp} : ∀ {vs : List V} {ds : List Da}, IsA H vs ds → vs.length = ds.length
  | _, _, .nil => rfl
  | _, _, .cons _ q => congrArg (· + 1) (IsA.len q)
theorem IsA.get {H : Hp} : ∀ {vs : List V} {ds : List Da} {i : Nat} {d : Da}, IsA H vs ds → ds[i]? = some d → ∃ v, vs[i]? = some v ∧ Is H v d
  | _, _, _, _, .nil, e => by simp at e
  | _, _, 0, _, .cons h _, e => by simp at e; subst e; exact ⟨_, rfl, h⟩
  | _, _, i + 1, d, .cons _ q, e => by
    obtain ⟨v, a, b⟩ := IsA.get (i := i) (d := d) q (by simpa using e)
    exact ⟨v, by simpa using a, b⟩
theorem IsA.getV {H : Hp} : ∀ {vs : List V} {ds : List Da} {i : Nat} {v : V}, IsA H vs ds → vs[i]? = some v → ∃ d, ds[i]? = some d ∧ Is H v d
  | _, _, _, _, .nil, e => by simp at e
  | _, _, 0, _, .cons h _, e => by simp at e; subst e; exact ⟨_, rfl, h⟩
  | _, _, i + 1, d, .cons _ q, e => by
    obtain ⟨v, a, b⟩ := IsA.getV (i := i) q (by simpa using e)
    exact ⟨v, by simpa using a, b⟩
theorem IsA.app {H : Hp} : ∀ {vs ws : List V} {ds es : List Da}, IsA H vs ds → IsA H ws es → IsA H (vs ++ ws) (ds ++ es)
  | _, _, _, _, .nil, s => s
  | _, _, _, _, .cons h q, s => .cons h (IsA.app q s)
theorem IsA.take {H : Hp} : ∀ {vs : List V} {ds : List Da} (n : Nat), IsA H vs ds → IsA H (vs.take n) (ds.take n)
  | _, _, 0, _ => .nil
  | _, _, _ + 1, .nil => .nil
  | _, _, n + 1, .cons h q => .cons h (IsA.take n q)
theorem IsA.drop {H : Hp} : ∀ {vs : List V} {ds : List Da} (n : Nat), IsA H vs ds → IsA H (vs.drop n) (ds.drop n)
  | _, _, 0, r => r
  | _, _, _ + 1, .nil => .nil
  | _, _, n + 1, .cons _ q => IsA.drop n q
/-- how deep, told by a bound -/
def Da.dep : Nat → Da → Prop
  | 0, _ => False
  | n + 1, .tup ds => ds.length ≤ 100000 ∧ ∀ d ∈ ds, Da.dep n d
  | _ + 1, _ => True
def Da.ty : Da → String
  | .non => "NoneType"
  | .bl _ => "bool"
  | .int _ => "int"
  | .str _ => "str"
  | .tup _ => "tuple"
theorem Is.ty {K : PySem.W.Frag} {H : Hp} {v : V} {d : Da} (h : Is H v d) : TyX K H v (.type d.ty) := by
  cases h with
  | non => exact .base .non
  | bl b => exact .base (.bl b)
  | int i => exact .base (.int i)
  | str x => exact .base (.str x)
  | tup h _ => exact .base (.tup h)
theorem walk_zipT {K : PySem.W.Frag} {a b : Addr} {xs ys : List V} {n : Nat} (hn : n = min xs.length ys.length) : Walk (RZ.ItzT K a b) n (fun H => SqT K H a xs ∧ SqT K H b ys) (YPair (fun i => xs[i]?) (fun i => ys[i]?)) := by
  subst hn
  refine ⟨fun i _ hi q => ?_, fun _ q => ⟨xs, ys, q.1, q.2, by omega⟩, fun i H v H' _ q y => ?_⟩
  · have h1 : i < xs.length := by omega
    have h2 : i < ys.length := by omega
    exact ⟨xs, ys, xs[i], ys[i], q.1, q.2, by simp [h1], by simp [h2]⟩
  · obtain ⟨T, x, z, h1, h2, h3, h4, h5⟩ := y
    exact ⟨T, x, z, h1, h2, h3, h4 xs q.1, h5 ys q.2⟩
theorem fn_never {P : Program} {w : World} {K : PySem.W.Frag} {mg : Str → Option Value} {base : Heap} {CX : CXT} {k : Nat} {f : Addr} {fd : FuncData} {ps : List Str} {sp : Sp} (no : ∀ vs H Q E, ¬ sp vs H Q E) : FnOk P w K mg base CX k f fd ps sp :=
  ⟨fun vs H Q E h => absurd h (no vs H Q E), fun _ _ _ H _ _ vs Q E _ _ _ _ h => absurd h (no vs H Q E)⟩
theorem yes_if {σ : L2.St} {H : Hp} {A B : Hp → Prop} (h : A H) : tYes σ H fun b H3 => if b = true then A H3 else B H3 := by
  show (if true = true then A H else B H)
  rw [if_pos rfl]
  exact h
theorem sz5 {n : Nat} (h : n ≤ 100000) : n ≤ sizeLine := Nat.le_trans h (by decide)
theorem sz5' {n : Nat} (h : n < 100000) : n < sizeLine := Nat.lt_of_lt_of_le h (by decide)
/-! alike -/
mutual
def Da.eq : Da → Da → Bool
  | .non, .non => true
  | .bl a, .bl b => a == b
  | .int i, .int j => decide (i = j)
  | .str x, .str y => decide (x = y)
  | .tup xs, .tup ys => Da.eqA xs ys
  | _, _ => false
def Da.eqA : List Da → List Da → Bool
  | [], [] => true
  | x :: xs, y :: ys => Da.eq x y && Da.eqA xs ys
  | _, _ => false
end
mutual
theorem Da.eq_refl : ∀ d : Da, Da.eq d d = true
  | .non => rfl
  | .bl b => by simp [Da.eq]
  | .int i => by simp [Da.eq]
  | .str x => by simp [Da.eq]
  | .tup ds => by simp only [Da.eq]; exact Da.eqA_refl ds
theorem Da.eqA_refl : ∀ d : List Da, Da.eqA d d = true
  | [] => rfl
  | d :: r => by simp only [Da.eqA, Da.eq_refl d, Da.eqA_refl r, Bool.and_self]
end
theorem Da.eqA_len : ∀ {xs ys : List Da}, xs.length ≠ ys.length → Da.eqA xs ys = false
  | [], [], h => absurd rfl h
  | [], _ :: _, _ => rfl
  | _ :: _, [], _ => rfl
  | x :: xs, y :: ys, h => by
    have := Da.eqA_len (xs := xs) (ys := ys) (fun e => h (by simp [e]))
    simp [Da.eqA, this]
theorem Da.eqA_zip : ∀ {xs ys : List Da}, xs.length = ys.length → Da.eqA xs ys = ((xs.zip ys).map fun p => Da.eq p.1 p.2).all id
  | [], [], _ => rfl
  | x :: xs, y :: ys, h => by
    have := Da.eqA_zip (xs := xs) (ys := ys) (by simpa using h)
    simp [Da.eqA, this]

/-! ### the deck -/
abbrev MM : Int := 2147483629
structure Deck (H : Hp) (d g c : Addr) (n : Nat) : Prop where
  ne1 : d ≠ g
  ne2 : d ≠ c
  ne3 : g ≠ c
  hd : ∃ k : Nat, H d = some (.lst [.ref g, .ref c, .int k]) ∧ k ≤ n
  hg : ∃ ds : List Int, H g = some (.lst (ds.map V.int)) ∧ ∀ x ∈ ds, 0 ≤ x ∧ x < MM
  hc : ∃ cs : List Int, H c = some (.lst (cs.map V.int)) ∧ 0 < cs.length ∧ cs.length ≤ 64 ∧ ∀ x ∈ cs, 0 ≤ x ∧ x < MM
theorem Deck.noTup {H : Hp} {d g c : Addr} {n : Nat} (D : Deck H d g c n) : NoTup [d, g, c] H := fun a m xs e => by
  obtain ⟨k, h1, _⟩ := D.hd
  obtain ⟨ds, h2, _⟩ := D.hg
  obtain ⟨cs, h3, _⟩ := D.hc
  simp only [List.mem_cons, List.not_mem_nil, or_false] at m
  rcases m with rfl | rfl | rfl
  · rw [h1] at e; cases e
  · rw [h2] at e; cases e
  · rw [h3] at e; cases e
theorem Deck.put {H : Hp} {d g c p : Addr} {n : Nat} {o : HO} (D : Deck H d g c n) (h : p ∉ [d, g, c]) : Deck (upd H p o) d g c n := by
  simp only [List.mem_cons, List.not_mem_nil, or_false, not_or] at h
  obtain ⟨a, b, e⟩ := h
  refine ⟨D.ne1, D.ne2, D.ne3, ?_, ?_, ?_⟩
  · rw [upd_ne (Ne.symm a)]; exact D.hd
  · rw [upd_ne (Ne.symm b)]; exact D.hg
  · rw [upd_ne (Ne.symm e)]; exact D.hc
theorem Deck.not_new {H : Hp} {d g c p : Addr} {n : Nat} (D : Deck H d g c n) (h : H p = none) : p ∉ [d, g, c] := by
  obtain ⟨k, h1, _⟩ := D.hd
  obtain ⟨ds, h2, _⟩ := D.hg
  obtain ⟨cs, h3, _⟩ := D.hc
  simp only [List.mem_cons, List.not_mem_nil, or_false, not_or]
  exact ⟨(ne_of_none h1 h).symm, (ne_of_none h2 h).symm, (ne_of_none h3 h).symm⟩
theorem Deck.new {H : Hp} {d g c p : Addr} {n : Nat} {o : HO} (D : Deck H d g c n) (h : H p = none) : Deck (upd H p o) d g c n := D.put (D.not_new h)
theorem Deck.le {H : Hp} {d g c : Addr} {n m : Nat} (D : Deck H d g c n) (h : n ≤ m) : Deck H d g c m := by
  obtain ⟨k, h1, h2⟩ := D.hd
  exact ⟨D.ne1, D.ne2, D.ne3, ⟨k, h1, by omega⟩, D.hg, D.hc⟩
theorem Deck.same {H H' : Hp} {d g c : Addr} {n : Nat} (D : Deck H d g c n) (s : Same H H') : Deck H' d g c n := by
  obtain ⟨k, h1, h2⟩ := D.hd
  obtain ⟨ds, h3, h4⟩ := D.hg
  obtain ⟨cs, h5, h6⟩ := D.hc
  exact ⟨D.ne1, D.ne2, D.ne3, ⟨k, s _ _ h1, h2⟩, ⟨ds, s _ _ h3, h4⟩, ⟨cs, s _ _ h5, h6⟩⟩
theorem mod_range {k m : Int} (h : 0 < m) : 0 ≤ k % m ∧ k % m < m := ⟨Int.emod_nonneg _ (by omega), Int.emod_lt_of_pos _ h⟩
theorem at_int {ns : List Int} {i : Int} (h0 : 0 ≤ i) (h1 : i < ns.length) : ∃ v, atI (ns.map V.int) i = some (.int v) ∧ v ∈ ns := by
  have hk : i.toNat < ns.length := by omega
  refine ⟨ns[i.toNat], at_of (j := i.toNat) (by omega) ?_, List.getElem_mem hk⟩
  rw [List.getElem?_map, List.getElem?_eq_getElem hk]; rfl
theorem at_nat {α : Type} {xs : List α} {f : α → V} {i : Int} (h0 : 0 ≤ i) (h1 : i < xs.length) : ∃ v, atI (xs.map f) i = some (f v) ∧ v ∈ xs ∧ xs[i.toNat]? = some v := by
  have hk : i.toNat < xs.length := by omega
  refine ⟨xs[i.toNat], at_of (j := i.toNat) (by omega) ?_, List.getElem_mem hk, List.getElem?_eq_getElem hk⟩
  rw [List.getElem?_map, List.getElem?_eq_getElem hk]; rfl
theorem atV {xs : List V} {i : Int} (h0 : 0 ≤ i) (h1 : i < xs.length) : ∃ v, atI xs i = some v ∧ xs[i.toNat]? = some v := by
  have hk : i.toNat < xs.length := by omega
  exact ⟨xs[i.toNat], at_of (j := i.toNat) (by omega) (List.getElem?_eq_getElem hk), List.getElem?_eq_getElem hk⟩
end Nf

set_option Elab.async false
set_option linter.all false
set_option maxRecDepth 100000
/-! data, frozen heaps, what a def's slots stand for -/
namespace Sh
open PySem L2 Nf
theorem nmem_of {l : List Nat} {i : Nat} (h : l.contains i = false) : i ∉ l := fun m => by
  rw [List.contains_iff_mem.mpr m] at h; cases h
theorem mem_of {l : List Nat} {i : Nat} (h : l.contains i = true) : i ∈ l := List.contains_iff_mem.mp h
inductive D where
  | non | bl (b : Bool) | int (i : Int) | str (x : Str) | tup (ds : List D) | lst (ds : List D) | dk (ks : List Key) (vs : List D) | ins (C : Addr) (ks : List Str) (vs : List D) | deck | shr (j : Nat)
structure Cn where
  K : PySem.W.Frag
  dk : Addr
/-- the mark of the j-th shared object, which changes -/
abbrev mrk (j : Nat) : HO := .rng 0 j
theorem mrk_inj {i j : Nat} (h : mrk i = mrk j) : i = j := by
  injection h with _ h
  exact Int.ofNat.inj h
def nm (o : HO) : Prop := ∀ j, o ≠ mrk j
theorem nm_lst {xs : List V} : nm (.lst xs) := fun j e => nomatch e
theorem nm_tup {xs : List V} : nm (.tup xs) := fun j e => nomatch e
theorem nm_dK {xs : List (Key × V)} : nm (.dK xs) := fun j e => nomatch e
theorem nm_ins {C dx : Addr} {fs : List (Str × V)} : nm (.ins C dx fs) := fun j e => nomatch e
def Le (R R' : Hp) : Prop := (∀ a u, Rd R a u → Rd R' a u) ∧ (∀ a xs, R a = some (.lst xs) → R' a = some (.lst xs)) ∧ ∀ a j, R a = some (mrk j) → R' a = some (mrk j)
theorem Le.refl (R : Hp) : Le R R := ⟨fun _ _ h => h, fun _ _ h => h, fun _ _ h => h⟩
theorem _root_.L2.Same.le {R R' : Hp} (s : Same R R') : Le R R' := ⟨fun a u h => by
  rcases h with h | ⟨o, h⟩
  · exact .inl (s _ _ h)
  · exact .inr ⟨o, s _ _ h⟩, fun a xs h => s _ _ h, fun a j h => s _ _ h⟩
theorem Le.sqT {K : PySem.W.Frag} {R R' : Hp} (l : Le R R') {a : Addr} {xs : List V} (h : SqT K R a xs) : SqT K R' a xs := h.imp (l.1 a _) id
theorem Le.sqL {K : PySem.W.Frag} {R R' : Hp} (l : Le R R') {a : Addr} {xs : List V} (h : SqL K R a xs) : SqL K R' a xs := h.imp (l.1 a _) id
mutual
inductive Fz (c : Cn) (R : Hp) : V → D → Prop
  | non : Fz c R .non .non
  | bl (b : Bool) : Fz c R (.bl b) (.bl b)
  | int (i : Int) : Fz c R (.int i) (.int i)
  | str (x : Str) : x.length ≤ sizeLine → Fz c R (.str x) (.str x)
  | tup {a : Addr} {xs : List V} {ds : List D} : SqT c.K R a xs → xs.length ≤ sizeLine → FzA c R xs ds → Fz c R (.ref a) (.tup ds)
  | lst {a : Addr} {xs : List V} {ds : List D} : R a = some (.lst xs) → xs.length ≤ sizeLine → FzA c R xs ds → Fz c R (.ref a) (.lst ds)
  | dk {a : Addr} {kvs : List (Key × V)} {ds : List D} : Rd R a (.dK kvs) → kvs.length ≤ sizeLine → FzA c R (kvs.map Prod.snd) ds → Fz c R (.ref a) (.dk (kvs.map Prod.fst) ds)
  | ins {a C dx : Addr} {fs : List (Str × V)} {ds : List D} : Rd R a (.ins C dx fs) → FzA c R (fs.map Prod.snd) ds → Fz c R (.ref a) (.ins C (fs.map Prod.fst) ds)
  | deck : Fz c R (.ref c.dk) .deck
  | shr {a : Addr} {j : Nat} : R a = some (mrk j) → Fz c R (.ref a) (.shr j)
inductive FzA (c : Cn) (R : Hp) : List V → List D → Prop
  | nil : FzA c R [] []
  | cons {v : V} {vs : List V} {d : D} {ds : List D} : Fz c R v d → FzA c R vs ds → FzA c R (v :: vs) (d :: ds)
end
mutual
theorem Fz.mono {c : Cn} {R R' : Hp} (k : Le R R') : ∀ {v : V} {d : D}, Fz c R v d → Fz c R' v d
  | _, _, .non => .non
  | _, _, .bl b => .bl b
  | _, _, .int i => .int i
  | _, _, .str x h => .str x h
  | _, _, .tup h z q => .tup (k.sqT h) z (FzA.mono k q)
  | _, _, .lst h z q => .lst (k.2.1 _ _ h) z (FzA.mono k q)
  | _, _, .dk h z q => .dk (k.1 _ _ h) z (FzA.mono k q)
  | _, _, .ins h q => .ins (k.1 _ _ h) (FzA.mono k q)
  | _, _, .deck => .deck
  | _, _, .shr h => .shr (k.2.2 _ _ h)
theorem FzA.mono {c : Cn} {R R' : Hp} (k : Le R R') : ∀ {v : List V} {d : List D}, FzA c R v d → FzA c R' v d
  | _, _, .nil => .nil
  | _, _, .cons h q => .cons (Fz.mono k h) (FzA.mono k q)
end
section
variable {c : Cn} {R : Hp}
theorem FzA.len : ∀ {vs : List V} {ds : List D}, FzA c R vs ds → vs.length = ds.length
  | _, _, .nil => rfl
  | _, _, .cons _ q => congrArg (· + 1) (FzA.len q)
theorem FzA.get : ∀ {vs : List V} {ds : List D} {i : Nat} {d : D}, FzA c R vs ds → ds[i]? = some d → ∃ v, vs[i]? = some v ∧ Fz c R v d
  | _, _, _, _, .nil, e => by simp at e
  | _, _, 0, _, .cons h _, e => by simp at e; subst e; exact ⟨_, rfl, h⟩
  | _, _, i + 1, d, .cons _ q, e => by
    obtain ⟨v, a, b⟩ := FzA.get (i := i) (d := d) q (by simpa using e)
    exact ⟨v, by simpa using a, b⟩
theorem FzA.getV : ∀ {vs : List V} {ds : List D} {i : Nat} {v : V}, FzA c R vs ds → vs[i]? = some v → ∃ d, ds[i]? = some d ∧ Fz c R v d
  | _, _, _, _, .nil, e => by simp at e
  | _, _, 0, _, .cons h _, e => by simp at e; subst e; exact ⟨_, rfl, h⟩
  | _, _, i + 1, d, .cons _ q, e => by
    obtain ⟨v, a, b⟩ := FzA.getV (i := i) q (by simpa using e)
    exact ⟨v, by simpa using a, b⟩
theorem FzA.app : ∀ {vs ws : List V} {ds es : List D}, FzA c R vs ds → FzA c R ws es → FzA c R (vs ++ ws) (ds ++ es)
  | _, _, _, _, .nil, s => s
  | _, _, _, _, .cons h q, s => .cons h (FzA.app q s)
theorem FzA.take : ∀ {vs : List V} {ds : List D} (n : Nat), FzA c R vs ds → FzA c R (vs.take n) (ds.take n)
  | _, _, 0, _ => .nil
  | _, _, _ + 1, .nil => .nil
  | _, _, n + 1, .cons h q => .cons h (FzA.take n q)
theorem FzA.drop : ∀ {vs : List V} {ds : List D} (n : Nat), FzA c R vs ds → FzA c R (vs.drop n) (ds.drop n)
  | _, _, 0, r => r
  | _, _, _ + 1, .nil => .nil
  | _, _, n + 1, .cons _ q => FzA.drop n q
theorem FzA.rev : ∀ {ws : List V} {ds : List D}, FzA c R ws ds → FzA c R ws.reverse ds.reverse
  | _, _, .nil => .nil
  | _, _, .cons a b => by
    rw [List.reverse_cons, List.reverse_cons]
    exact (FzA.rev b).app (.cons a .nil)
theorem FzA.snoc_inv : ∀ {ws : List V} {ds : List D} {d : D}, FzA c R ws (ds ++ [d]) → ∃ ws0 w, ws = ws0 ++ [w] ∧ FzA c R ws0 ds ∧ Fz c R w d
  | _, [], d, h => by
    cases h with
    | cons a b => cases b; exact ⟨[], _, rfl, .nil, a⟩
  | _, e :: r, d, h => by
    cases h with
    | @cons v vs _ _ a b =>
      obtain ⟨ws0, w, rfl, h1, h2⟩ := FzA.snoc_inv (ds := r) b
      exact ⟨v :: ws0, w, rfl, .cons a h1, h2⟩
theorem FzA.set : ∀ {vs : List V} {ds : List D} (i : Nat) {v : V} {d : D}, FzA c R vs ds → Fz c R v d → FzA c R (vs.set i v) (ds.set i d)
  | _, _, _, _, _, .nil, _ => .nil
  | _, _, 0, _, _, .cons _ q, h => .cons h q
  | _, _, i + 1, _, _, .cons p q, h => .cons p (FzA.set i q h)
theorem Fz.tup_inv {v : V} {ds : List D} (h : Fz c R v (.tup ds)) : ∃ a xs, v = .ref a ∧ SqT c.K R a xs ∧ xs.length ≤ sizeLine ∧ FzA c R xs ds := by
  cases h with | tup a b d => exact ⟨_, _, rfl, a, b, d⟩
theorem Fz.lst_inv {v : V} {ds : List D} (h : Fz c R v (.lst ds)) : ∃ a xs, v = .ref a ∧ R a = some (.lst xs) ∧ xs.length ≤ sizeLine ∧ FzA c R xs ds := by
  cases h with | lst a b d => exact ⟨_, _, rfl, a, b, d⟩
theorem Fz.str_inv {v : V} {x : Str} (h : Fz c R v (.str x)) : v = .str x ∧ x.length ≤ sizeLine := by
  cases h with | str _ z => exact ⟨rfl, z⟩
theorem Fz.int_inv {v : V} {i : Int} (h : Fz c R v (.int i)) : v = .int i := by cases h; rfl
theorem Fz.bl_inv {v : V} {b : Bool} (h : Fz c R v (.bl b)) : v = .bl b := by cases h; rfl
theorem Fz.non_inv {v : V} (h : Fz c R v .non) : v = .non := by cases h; rfl
end
/-- what an owned object holds -/
inductive FzO (c : Cn) (R : Hp) : HO → D → Prop
  | lst {xs : List V} {ds : List D} : xs.length ≤ sizeLine → FzA c R xs ds → FzO c R (.lst xs) (.lst ds)
  | dk {kvs : List (Key × V)} {ds : List D} : kvs.length ≤ sizeLine → FzA c R (kvs.map Prod.snd) ds → FzO c R (.dK kvs) (.dk (kvs.map Prod.fst) ds)
theorem FzO.mono {c : Cn} {R R' : Hp} (k : Le R R') {o : HO} {d : D} (h : FzO c R o d) : FzO c R' o d := by
  cases h with
  | lst z q => exact .lst z (q.mono k)
  | dk z q => exact .dk z (q.mono k)
theorem FzO.fz {c : Cn} {R : Hp} {o : HO} {d : D} {a : Addr} (h : FzO c R o d) (e : R a = some o) : Fz c R (.ref a) d := by
  cases h with
  | lst z q => exact .lst e z q
  | dk z q => exact .dk (.inl e) z q

/-! tuples of plain things and marks alone -/
mutual
def D.flat : D → Bool
  | .non => true
  | .bl _ => true
  | .int _ => true
  | .str _ => true
  | .deck => true
  | .shr _ => true
  | .tup ds => D.flatA ds
  | _ => false
def D.flatA : List D → Bool
  | [] => true
  | d :: r => D.flat d && D.flatA r
end
def D.flatO : D → Bool
  | .lst ds => D.flatA ds
  | .dk _ ds => D.flatA ds
  | _ => false
mutual
theorem Fz.hide {c : Cn} {R R' : Hp} (h : (∀ a xs, Rd R a (.tup xs) → Rd R' a (.tup xs)) ∧ ∀ a j, R a = some (mrk j) → R' a = some (mrk j)) : ∀ {v : V} {d : D}, Fz c R v d → d.flat = true → Fz c R' v d
  | _, _, .non, _ => .non
  | _, _, .bl b, _ => .bl b
  | _, _, .int i, _ => .int i
  | _, _, .str x z, _ => .str x z
  | _, .tup ds, .tup q z f, e => .tup (q.imp (h.1 _ _) id) z (FzA.hide h f (by simpa [D.flat] using e))
  | _, _, .lst _ _ _, e => by simp [D.flat] at e
  | _, _, .dk _ _ _, e => by simp [D.flat] at e
  | _, _, .ins _ _, e => by simp [D.flat] at e
  | _, _, .deck, _ => .deck
  | _, _, .shr q, _ => .shr (h.2 _ _ q)
theorem FzA.hide {c : Cn} {R R' : Hp} (h : (∀ a xs, Rd R a (.tup xs) → Rd R' a (.tup xs)) ∧ ∀ a j, R a = some (mrk j) → R' a = some (mrk j)) : ∀ {v : List V} {d : List D}, FzA c R v d → D.flatA d = true → FzA c R' v d
  | _, _, .nil, _ => .nil
  | _, d :: r, .cons a b, e => by
    simp only [D.flatA, Bool.and_eq_true] at e
    exact .cons (Fz.hide h a e.1) (FzA.hide h b e.2)
end
theorem FzO.hide {c : Cn} {R R' : Hp} (h : (∀ a xs, Rd R a (.tup xs) → Rd R' a (.tup xs)) ∧ ∀ a j, R a = some (mrk j) → R' a = some (mrk j)) {o : HO} {d : D} (f : FzO c R o d) (e : d.flatO = true) : FzO c R' o d := by
  cases f with
  | lst z q => exact .lst z (q.hide h e)
  | dk z q => exact .dk z (q.hide h e)
theorem FzO.nm {c : Cn} {R : Hp} {o : HO} {d : D} (f : FzO c R o d) : nm o := by
  cases f with
  | lst z q => exact nm_lst
  | dk z q => exact nm_dK

/-! frozen things in the heap; marks stand for what changes -/
structure Sm (R H : Hp) : Prop where
  st : ∀ a o, R a = some o → Sh.nm o → H a = some o
  th : ∀ a j, R a = some (mrk j) → H a ≠ none
theorem Sm.l {R H : Hp} (S : Sm R H) {a : Addr} {xs : List V} (h : R a = some (.lst xs)) : H a = some (.lst xs) := S.st a _ h nm_lst
theorem Sm.rd {R H : Hp} (S : Sm R H) {a : Addr} {u : HO} (h : Rd R a u) (n : Sh.nm u) : Rd H a u := by
  rcases h with h | ⟨o, h⟩
  · exact .inl (S.st a _ h n)
  · exact .inr ⟨o, S.st a _ h fun j e => nomatch e⟩
theorem Sm.dk {R H : Hp} (S : Sm R H) {a : Addr} {xs : List (Key × V)} (h : Rd R a (.dK xs)) : Rd H a (.dK xs) := S.rd h nm_dK
theorem Sm.ins {R H : Hp} (S : Sm R H) {a C dx : Addr} {fs : List (Str × V)} (h : Rd R a (.ins C dx fs)) : Rd H a (.ins C dx fs) := S.rd h nm_ins
theorem Sm.sqT {K : PySem.W.Frag} {R H : Hp} (S : Sm R H) {a : Addr} {xs : List V} (h : SqT K R a xs) : SqT K H a xs := h.imp (fun h => S.rd h nm_tup) id
theorem Sm.sqL {K : PySem.W.Frag} {R H : Hp} (S : Sm R H) {a : Addr} {xs : List V} (h : SqL K R a xs) : SqL K H a xs := h.imp (fun h => S.rd h nm_lst) id
theorem Sm.free {R H : Hp} (S : Sm R H) {a : Addr} (h : H a = none) : R a = none := by
  cases q : R a with
  | none => rfl
  | some o =>
    by_cases m : Sh.nm o
    · rw [S.st a o q m] at h; cases h
    · have : ∃ j, o = mrk j := Classical.byContradiction fun z => m fun j e => z ⟨j, e⟩
      obtain ⟨j, rfl⟩ := this
      exact absurd h (S.th a j q)
theorem _root_.L2.Same.tr {R R' H : Hp} (s : Same R R') (S : Sm R' H) : Sm R H := ⟨fun a o h n => S.st a o (s a o h) n, fun a j h => S.th a j (s a _ h)⟩
theorem _root_.L2.Same.sm {R H : Hp} (s : Same R H) : Sm R H := ⟨fun a o h _ => s a o h, fun a j h => by rw [s a _ h]; exact fun z => nomatch z⟩
theorem Sm.tr {R H H' : Hp} (S : Sm R H) (s : Same H H') : Sm R H' := ⟨fun a o h n => s a o (S.st a o h n), fun a j h z => S.th a j h (s.free z)⟩
/-- all stays but what the world holds and what is marked -/
def KeepM (D : List Addr) (R H H' : Hp) : Prop := ∀ a o, H a = some o → a ∉ D → (∀ j, R a ≠ some (mrk j)) → H' a = some o
theorem KeepM.refl (D : List Addr) (R H : Hp) : KeepM D R H H := fun _ _ h _ _ => h
theorem KeepM.of {D : List Addr} {R H H' : Hp} (k : Keep D H H') : KeepM D R H H' := fun a o h n _ => k a o h n
theorem KeepM.trans {D : List Addr} {R R' H H1 H2 : Hp} (a : KeepM D R H H1) (b : KeepM D R' H1 H2) (s : Same R R') : KeepM D R' H H2 := fun c o h n m => b c o (a c o h n fun j e => m j (s _ _ e)) n m
theorem KeepM.up {D : List Addr} {R R' H H1 : Hp} (a : KeepM D R H H1) (s : Same R R') : KeepM D R' H H1 := fun c o h n m => a c o h n fun j e => m j (s _ _ e)
theorem KeepM.same {D : List Addr} {R H H1 H2 : Hp} (a : KeepM D R H H1) (s : Same H1 H2) : KeepM D R H H2 := fun c o h n m => s _ _ (a c o h n m)
theorem KeepM.new {D : List Addr} {R H H' : Hp} {p : Addr} {o : HO} (k : KeepM D R H H') (h : H' p = none) : KeepM D R H (upd H' p o) := k.same (same_new h o)
theorem KeepM.mutN {D : List Addr} {R H H' : Hp} {p : Addr} {o : HO} (k : KeepM D R H H') (h : H p = none) : KeepM D R H (upd H' p o) := fun a u e n m => by
  rw [upd_ne (ne_of_none e h)]; exact k a u e n m
theorem KeepM.mutM {D : List Addr} {R H H' : Hp} {p : Addr} {o : HO} {j : Nat} (k : KeepM D R H H') (h : R p = some (mrk j)) : KeepM D R H (upd H' p o) := fun a u e n m => by
  have : a ≠ p := fun z => m j (z ▸ h)
  rw [upd_ne this]; exact k a u e n m
/-- how many draws, what the shared objects hold -/
abbrev Sx := Nat × List D
/-- a world beside the data: objects that are changed by some calls, by a number -/
structure Wd where
  dom : List Addr
  st : Nat → Hp → Prop
  only : ∀ n H H', st n H → (∀ a ∈ dom, H' a = H a) → st n H'
  there : ∀ n H, st n H → ∀ a ∈ dom, H a ≠ none
structure Gm where
  c : Cn
  W : Wd
  ow : List Nat
  H0 : Hp
  R0 : Hp
/-- the shared objects -/
structure MsOk (c : Cn) (R H : Hp) (ms : List D) : Prop where
  ms : ∀ a j, R a = some (mrk j) → ∃ o d, H a = some o ∧ ms[j]? = some d ∧ FzO c R o d ∧ d.flatO = true
  mi : ∀ a b j, R a = some (mrk j) → R b = some (mrk j) → a = b
structure HpOk (Γ : Gm) (R H : Hp) (n : Sx) : Prop where
  same : Sm R H
  dj : ∀ a ∈ Γ.W.dom, R a = none
  d0 : ∀ a ∈ Γ.W.dom, Γ.H0 a ≠ none
  wd : Γ.W.st n.1 H
  keep : KeepM Γ.W.dom R Γ.H0 H
  r0 : Same Γ.R0 R
  new : ∀ a, R a ≠ none → Γ.R0 a ≠ none ∨ Γ.H0 a = none
  m : MsOk Γ.c R H n.2
abbrev Sd := List (Option D)
structure Rp (Γ : Gm) (R H : Hp) (σ : L2.St) (ρ : Sd) (n : Sx) : Prop where
  len : σ.length = ρ.length
  fz : ∀ i d, i ∉ Γ.ow → ρ[i]? = some (some d) → ∃ v, σ[i]? = some (some v) ∧ Fz Γ.c R v d
  own : ∀ i d, i ∈ Γ.ow → ρ[i]? = some (some d) → ∃ a o, σ[i]? = some (some (.ref a)) ∧ H a = some o ∧ R a = none ∧ Γ.H0 a = none ∧ FzO Γ.c R o d
  dist : ∀ i j a d e, i ∈ Γ.ow → j ∈ Γ.ow → ρ[i]? = some (some d) → ρ[j]? = some (some e) → σ[i]? = some (some (.ref a)) → σ[j]? = some (some (.ref a)) → i = j
  hp : HpOk Γ R H n
section
variable {Γ : Gm} {R R' H H' : Hp} {σ : L2.St} {ρ : Sd} {n n' : Sx}
/-- the shared objects along a new frozen one, where all else stays -/
theorem MsOk.go {c : Cn} {ms : List D} (h : MsOk c R H ms) (s : Same R R') (nw : ∀ a j, R' a = some (mrk j) → R a = some (mrk j)) (k : ∀ a j o, R a = some (mrk j) → H a = some o → H' a = some o) : MsOk c R' H' ms :=
  ⟨fun a j e => by
    have e' := nw a j e
    obtain ⟨o, d, h1, h2, h3, h4⟩ := h.ms a j e'
    exact ⟨o, d, k a j o e' h1, h2, h3.mono s.le, h4⟩, fun a b j e f => h.mi a b j (nw a j e) (nw b j f)⟩
theorem upd_nm {p a : Addr} {o : HO} {j : Nat} (ho : nm o) (e : upd R p o a = some (mrk j)) : R a = some (mrk j) := by
  by_cases q : a = p
  · subst q; rw [upd_same] at e; exact absurd (Option.some.inj e) (ho j)
  · rwa [upd_ne q] at e
theorem KeepM.nn {D : List Addr} {R H H' : Hp} {a : Addr} (k : KeepM D R H H') (hd : ∀ b ∈ D, H' b ≠ Option.none) (hm : ∀ b j, R b = some (mrk j) → H' b ≠ none) (h : H' a = Option.none) : H a = Option.none := by
  cases q : H a with
  | none => rfl
  | some o =>
    by_cases m : a ∈ D
    · exact absurd h (hd a m)
    · rw [k a o q m fun j e => hm a j e h] at h; cases h
theorem HpOk.nn (h : HpOk Γ R H n) {a : Addr} (e : H a = none) : Γ.H0 a = none := KeepM.nn h.keep (Γ.W.there n.1 H h.wd) h.same.th e
/-- a new frozen object -/
theorem HpOk.lay {p : Addr} {o : HO} (h : HpOk Γ R H n) (hp : H p = none) (ho : nm o) : HpOk Γ (upd R p o) (upd H p o) n := by
  have hRp : R p = none := h.same.free hp
  have hpd : p ∉ Γ.W.dom := fun m => Γ.W.there n.1 H h.wd p m hp
  refine ⟨⟨fun a u e nu => ?_, fun a j e => ?_⟩, fun a m => ?_, h.d0, ?_, (h.keep.up (same_new hRp _)).new hp, h.r0.trans (same_new hRp _), fun a e => ?_, h.m.go (same_new hRp _) (fun a j e => upd_nm ho e) fun a j u e q => by rw [upd_ne (ne_of_none q hp)]; exact q⟩
  · by_cases q : a = p
    · subst q; rw [upd_same] at e; cases e; exact upd_same
    · rw [upd_ne q] at e ⊢; exact h.same.st _ _ e nu
  · have e' := upd_nm ho e
    have := h.same.th a j e'
    have q : a ≠ p := fun z => this (z ▸ hp)
    rw [upd_ne q]; exact this
  · have : a ≠ p := fun q => hpd (q ▸ m)
    rw [upd_ne this]; exact h.dj a m
  · refine Γ.W.only n.1 H _ h.wd fun a m => ?_
    have : a ≠ p := fun q => hpd (q ▸ m)
    rw [upd_ne this]
  · by_cases q : a = p
    · subst q; exact .inr (h.nn hp)
    · rw [upd_ne q] at e; exact h.new a e
theorem Sm.lay0 {p : Addr} {o : HO} (S : Sm R H) (hp : H p = none) : Sm R (upd H p o) := S.tr (same_new hp o)
theorem Sm.mutN {p : Addr} {o : HO} (S : Sm R H) (hp : R p = none) : Sm R (upd H p o) := ⟨fun a u e nu => by
    rw [upd_ne (ne_of_none e hp)]; exact S.st a u e nu, fun a j e => by
    rw [upd_ne (ne_of_none e hp)]; exact S.th a j e⟩
/-- a new object that is not frozen -/
theorem HpOk.lay0 {p : Addr} {o : HO} (h : HpOk Γ R H n) (hp : H p = none) : HpOk Γ R (upd H p o) n := by
  have hRp : R p = none := h.same.free hp
  have hpd : p ∉ Γ.W.dom := fun m => Γ.W.there n.1 H h.wd p m hp
  refine ⟨h.same.lay0 hp, h.dj, h.d0, ?_, h.keep.new hp, h.r0, h.new, h.m.go (Same.refl _) (fun _ _ e => e) fun a j u e q => by rw [upd_ne (ne_of_none q hp)]; exact q⟩
  refine Γ.W.only n.1 H _ h.wd fun a m => ?_
  have : a ≠ p := fun q => hpd (q ▸ m)
  rw [upd_ne this]
/-- a younger object that is not frozen is changed -/
theorem HpOk.mut {p : Addr} {o : HO} (h : HpOk Γ R H n) (hR : R p = none) (h0 : Γ.H0 p = none) : HpOk Γ R (upd H p o) n := by
  have hpd : p ∉ Γ.W.dom := fun m => h.d0 p m h0
  refine ⟨h.same.mutN hR, h.dj, h.d0, ?_, h.keep.mutN h0, h.r0, h.new, h.m.go (Same.refl _) (fun _ _ e => e) fun a j u e q => by rw [upd_ne (ne_of_none e hR)]; exact q⟩
  refine Γ.W.only n.1 H _ h.wd fun a m => ?_
  have : a ≠ p := fun q => hpd (q ▸ m)
  rw [upd_ne this]
theorem Rp.lay {p : Addr} {o : HO} (h : Rp Γ R H σ ρ n) (hp : H p = none) (ho : nm o := by first | assumption | exact nm_tup | exact nm_lst | exact nm_dK) : Rp Γ (upd R p o) (upd H p o) σ ρ n := by
  have hRp : R p = none := h.hp.same.free hp
  have S := same_new hRp o
  refine ⟨h.len, fun i d hi e => ?_, fun i d hi e => ?_, h.dist, h.hp.lay hp ho⟩
  · obtain ⟨v, h1, h2⟩ := h.fz i d hi e
    exact ⟨v, h1, h2.mono S.le⟩
  · obtain ⟨a, u, h1, h2, h3, h4, h5⟩ := h.own i d hi e
    have q : a ≠ p := ne_of_none h2 hp
    exact ⟨a, u, h1, by rw [upd_ne q]; exact h2, by rw [upd_ne q]; exact h3, h4, h5.mono S.le⟩
theorem Rp.lay0 {p : Addr} {o : HO} (h : Rp Γ R H σ ρ n) (hp : H p = none) : Rp Γ R (upd H p o) σ ρ n := by
  refine ⟨h.len, h.fz, fun i d hi e => ?_, h.dist, h.hp.lay0 hp⟩
  obtain ⟨a, u, h1, h2, h3, h4, h5⟩ := h.own i d hi e
  have q : a ≠ p := ne_of_none h2 hp
  exact ⟨a, u, h1, by rw [upd_ne q]; exact h2, h3, h4, h5⟩
/-- the heap went on (a call) -/
theorem HpOk.then (h : HpOk Γ R H n) (k : HpOk ⟨Γ.c, Γ.W, [], H, R⟩ R' H' n') : HpOk Γ R' H' n' := by
  refine ⟨k.same, k.dj, h.d0, k.wd, h.keep.trans k.keep k.r0, h.r0.trans k.r0, fun a e => ?_, k.m⟩
  rcases k.new a e with q | q
  · exact h.new a q
  · exact .inr (h.nn q)
theorem HpOk.enter (h : HpOk Γ R H n) : HpOk ⟨Γ.c, Γ.W, [], H, R⟩ R H n :=
  ⟨h.same, h.dj, Γ.W.there n.1 H h.wd, h.wd, KeepM.refl _ _ _, Same.refl _, fun _ e => .inl e, h.m⟩
theorem Rp.then (h : Rp Γ R H σ ρ n) (k : HpOk ⟨Γ.c, Γ.W, [], H, R⟩ R' H' n') : Rp Γ R' H' σ ρ n' := by
  refine ⟨h.len, fun i d hi e => ?_, fun i d hi e => ?_, h.dist, h.hp.then k⟩
  · obtain ⟨v, h1, h2⟩ := h.fz i d hi e
    exact ⟨v, h1, h2.mono k.r0.le⟩
  · obtain ⟨a, u, h1, h2, h3, h4, h5⟩ := h.own i d hi e
    have hd : a ∉ Γ.W.dom := fun m => h.hp.d0 a m h4
    have hn : R' a = none := by
      cases q : R' a with
      | none => rfl
      | some z =>
        rcases k.new a (by rw [q]; exact fun z => nomatch z) with z | z
        · exact absurd h3 z
        · rw [show H a = none from z] at h2; cases h2
    exact ⟨a, u, h1, k.keep a u h2 hd (by rw [hn]; exact fun j e => nomatch e), hn, h4, h5.mono k.r0.le⟩
theorem Rp.set {i : Nat} {v : V} {d : D} (h : Rp Γ R H σ ρ n) (hi : i ∉ Γ.ow) (hv : Fz Γ.c R v d) : Rp Γ R H (σ.set i (some v)) (ρ.set i (some d)) n := by
  refine ⟨by rw [List.length_set, List.length_set]; exact h.len, fun j e hj q => ?_, fun j e hj q => ?_, fun j k a d1 d2 hj hk q1 q2 q3 q4 => ?_, h.hp⟩
  · by_cases z : j = i
    · subst z
      have hl : j < ρ.length := by
        have := (List.getElem?_eq_some_iff.mp q).1
        rwa [List.length_set] at this
      rw [List.getElem?_set_self hl] at q
      cases q
      exact ⟨v, List.getElem?_set_self (by rw [h.len]; exact hl), hv⟩
    · rw [List.getElem?_set_ne (Ne.symm z)] at q ⊢
      exact h.fz j e hj q
  · have z : j ≠ i := fun z => hi (z ▸ hj)
    rw [List.getElem?_set_ne (Ne.symm z)] at q ⊢
    exact h.own j e hj q
  · have z1 : j ≠ i := fun z => hi (z ▸ hj)
    have z2 : k ≠ i := fun z => hi (z ▸ hk)
    rw [List.getElem?_set_ne (Ne.symm z1)] at q1 q3
    rw [List.getElem?_set_ne (Ne.symm z2)] at q2 q4
    exact h.dist j k a d1 d2 hj hk q1 q2 q3 q4
/-- a piece of the way: nothing but the world's objects changed, what is frozen anew is new -/
structure Go (Γ : Gm) (R H R' H' : Hp) : Prop where
  same : Same R R'
  keep : KeepM Γ.W.dom R' H H'
  new : ∀ a, R' a ≠ none → R a ≠ none ∨ H a = none
  nn : ∀ a, H' a = none → H a = none
theorem Go.refl (Γ : Gm) (R H : Hp) : Go Γ R H R H := ⟨Same.refl _, KeepM.refl _ _ _, fun _ e => .inl e, fun _ e => e⟩
theorem Go.trans {R1 H1 R2 H2 : Hp} (g : Go Γ R H R1 H1) (k : Go Γ R1 H1 R2 H2) : Go Γ R H R2 H2 :=
  ⟨g.same.trans k.same, g.keep.trans k.keep k.same, fun a e => (k.new a e).elim (g.new a) fun z => .inr (g.nn a z), fun a e => g.nn a (k.nn a e)⟩
theorem Go.le (g : Go Γ R H R' H') : Le R R' := g.same.le
theorem Rp.go {p : Addr} {o : HO} (h : Rp Γ R H σ ρ n) (hp : H p = none) : Go Γ R H (upd R p o) (upd H p o) := by
  have hRp : R p = none := h.hp.same.free hp
  refine ⟨same_new hRp o, (KeepM.refl _ _ _).new hp, fun a e => ?_, fun a e => ?_⟩
  · by_cases q : a = p
    · subst q; exact .inr hp
    · rw [upd_ne q] at e; exact .inl e
  · by_cases q : a = p
    · subst q; exact hp
    · rw [upd_ne q] at e; exact e
theorem HpOk.go (k : HpOk ⟨Γ.c, Γ.W, [], H, R⟩ R' H' n') : Go Γ R H R' H' := ⟨k.r0, k.keep, k.new, fun a e => HpOk.nn k e⟩
/-- a slot gets an owned object -/
theorem Rp.setO {i : Nat} {a : Addr} {o : HO} {d : D} (h : Rp Γ R H σ ρ n) (hi : i ∈ Γ.ow) (ha : H a = some o) (hR : R a = none) (h0 : Γ.H0 a = none) (hv : FzO Γ.c R o d)
    (hn : ∀ j e, j ∈ Γ.ow → j ≠ i → ρ[j]? = some (some e) → σ[j]? ≠ some (some (.ref a))) : Rp Γ R H (σ.set i (some (.ref a))) (ρ.set i (some d)) n := by
  refine ⟨by rw [List.length_set, List.length_set]; exact h.len, fun j e hj q => ?_, fun j e hj q => ?_, fun j k b d1 d2 hj hk q1 q2 q3 q4 => ?_, h.hp⟩
  · have z : j ≠ i := fun z => hj (z ▸ hi)
    rw [List.getElem?_set_ne (Ne.symm z)] at q ⊢
    exact h.fz j e hj q
  · by_cases z : j = i
    · subst z
      have hl : j < ρ.length := by
        have := (List.getElem?_eq_some_iff.mp q).1
        rwa [List.length_set] at this
      rw [List.getElem?_set_self hl] at q
      cases q
      exact ⟨a, o, List.getElem?_set_self (by rw [h.len]; exact hl), ha, hR, h0, hv⟩
    · rw [List.getElem?_set_ne (Ne.symm z)] at q ⊢
      exact h.own j e hj q
  · by_cases z1 : j = i
    · by_cases z2 : k = i
      · rw [z1, z2]
      · subst z1
        rw [List.getElem?_set_ne (Ne.symm z2)] at q2 q4
        have hl : j < σ.length := by
          have := (List.getElem?_eq_some_iff.mp q3).1
          rwa [List.length_set] at this
        rw [List.getElem?_set_self hl] at q3
        cases q3
        exact absurd q4 (hn k d2 hk z2 q2)
    · rw [List.getElem?_set_ne (Ne.symm z1)] at q1 q3
      by_cases z2 : k = i
      · subst z2
        have hl : k < σ.length := by
          have := (List.getElem?_eq_some_iff.mp q4).1
          rwa [List.length_set] at this
        rw [List.getElem?_set_self hl] at q4
        cases q4
        exact absurd q3 (hn j d1 hj z1 q1)
      · rw [List.getElem?_set_ne (Ne.symm z2)] at q2 q4
        exact h.dist j k b d1 d2 hj hk q1 q2 q3 q4
/-- an owned object is changed -/
theorem Rp.mut {i : Nat} {a : Addr} {o : HO} {d d' : D} (h : Rp Γ R H σ ρ n) (hi : i ∈ Γ.ow) (hd : ρ[i]? = some (some d)) (hs : σ[i]? = some (some (.ref a))) (hv : FzO Γ.c R o d') : Rp Γ R (upd H a o) σ (ρ.set i (some d')) n := by
  obtain ⟨a', u, h1, h2, h3, h4, h5⟩ := h.own i d hi hd
  rw [hs] at h1; cases h1
  refine ⟨by rw [List.length_set]; exact h.len, fun j e hj q => ?_, fun j e hj q => ?_, fun j k b d1 d2 hj hk q1 q2 q3 q4 => ?_, h.hp.mut h3 h4⟩
  · have z : j ≠ i := fun z => hj (z ▸ hi)
    rw [List.getElem?_set_ne (Ne.symm z)] at q
    exact h.fz j e hj q
  · by_cases z : j = i
    · subst z
      have hl : j < ρ.length := by
        have := (List.getElem?_eq_some_iff.mp q).1
        rwa [List.length_set] at this
      rw [List.getElem?_set_self hl] at q
      cases q
      exact ⟨a, o, hs, upd_same, h3, h4, hv⟩
    · rw [List.getElem?_set_ne (Ne.symm z)] at q
      obtain ⟨b, u', g1, g2, g3, g4, g5⟩ := h.own j e hj q
      have : b ≠ a := fun w => z (h.dist j i a e d hj hi q hd (w ▸ g1) hs)
      exact ⟨b, u', g1, by rw [upd_ne this]; exact g2, g3, g4, g5⟩
  · have ex : ∀ m e, m ∈ Γ.ow → (ρ.set i (some d'))[m]? = some (some e) → ∃ e', ρ[m]? = some (some e') := fun m e hm q => by
      by_cases z : m = i
      · exact ⟨d, z ▸ hd⟩
      · rw [List.getElem?_set_ne (Ne.symm z)] at q; exact ⟨e, q⟩
    obtain ⟨e1, g1⟩ := ex j d1 hj q1
    obtain ⟨e2, g2⟩ := ex k d2 hk q2
    exact h.dist j k b e1 e2 hj hk g1 g2 q3 q4
end
end Sh

set_option Elab.async false
set_option linter.all false
set_option maxRecDepth 100000
/-! expressions by data -/
namespace Sh
open PySem L2 Nf
abbrev M (α : Type) := Sx → Option (α × Sx)
def Mp {α : Type} (a : α) : M α := fun n => some (a, n)
def Mb {α β : Type} (x : M α) (f : α → M β) : M β := fun n => match x n with
  | none => none
  | some (a, n') => f a n'
def Mo {α : Type} (o : Option α) : M α := fun n => o.map (·, n)
theorem Mb_some {α β : Type} {x : M α} {f : α → M β} {n n' : Sx} {b : β} (h : Mb x f n = some (b, n')) : ∃ a m, x n = some (a, m) ∧ f a m = some (b, n') := by
  unfold Mb at h
  cases e : x n with
  | none => rw [e] at h; cases h
  | some p => obtain ⟨a, m⟩ := p; rw [e] at h; exact ⟨a, m, rfl, h⟩
theorem Mo_some {α : Type} {o : Option α} {n n' : Sx} {b : α} (h : Mo o n = some (b, n')) : o = some b ∧ n' = n := by
  unfold Mo at h
  cases o with
  | none => cases h
  | some a => cases h; exact ⟨rfl, rfl⟩
theorem ite_some {α : Type} {c : Prop} [Decidable c] {x : Option α} {a : α} (h : (if c then x else none) = some a) : c ∧ x = some a := by
  by_cases hc : c
  · rw [if_pos hc] at h; exact ⟨hc, h⟩
  · rw [if_neg hc] at h; cases h
theorem Mb_eq {α β : Type} {x : M α} {f : α → M β} {n n' : Sx} {a : α} (h : x n = some (a, n')) : Mb x f n = f a n' := by unfold Mb; rw [h]
abbrev Ed := Sd → M D
abbrev Ad := Sd → M (List D)
abbrev Td := Sd → M Bool
def up (Γ : Gm) (t : Ed) : TE := fun σ H Q => ∃ R ρ n r n', Rp Γ R H σ ρ n ∧ t ρ n = some (r, n') ∧ ∀ v R' H', Rp Γ R' H' σ ρ n' → Go Γ R H R' H' → Fz Γ.c R' v r → Q v H'
def upA (Γ : Gm) (t : Ad) : TA := fun σ H Q => ∃ R ρ n r n', Rp Γ R H σ ρ n ∧ t ρ n = some (r, n') ∧ ∀ v R' H', Rp Γ R' H' σ ρ n' → Go Γ R H R' H' → FzA Γ.c R' v r → Q v H'
def upT (Γ : Gm) (t : Td) : TT := fun σ H Q => ∃ R ρ n r n', Rp Γ R H σ ρ n ∧ t ρ n = some (r, n') ∧ ∀ R' H', Rp Γ R' H' σ ρ n' → Go Γ R H R' H' → Q r H'
section
variable {X : Cx} {Γ : Gm}
theorem PE.wk {e : Expr} {t t' : TE} (h : PE X e t) (k : ∀ σ H Q, t' σ H Q → t σ H Q) : PE X e t' := ⟨fun pins s σ H Q I q => h.run pins s σ H Q I (k σ H Q q)⟩
theorem PT.wk {e : Expr} {t t' : TT} (h : PT X e t) (k : ∀ σ H Q, t' σ H Q → t σ H Q) : PT X e t' := ⟨fun pins s σ H Q I q => h.run pins s σ H Q I (k σ H Q q)⟩
theorem PW.wk {e : Expr} {t t' : TT} (h : PW X e t) (k : ∀ σ H Q, t' σ H Q → t σ H Q) : PW X e t' := ⟨fun wh pins s σ H Q I q => h.run wh pins s σ H Q I (k σ H Q q)⟩
theorem PA.wk {e : List Expr} {t t' : TA} (h : PA X e t) (k : ∀ σ H Q, t' σ H Q → t σ H Q) : PA X e t' := ⟨fun pos pins s σ H Q I q => h.run pos pins s σ H Q I (k σ H Q q)⟩
theorem PS.wk {e : Stmt} {t t' : TS} (h : PS X e t) (k : ∀ D σ H, t' D σ H → t D σ H) : PS X e t' := ⟨fun pins s σ H Q I q => h.run pins s σ H Q I (k Q σ H q)⟩
theorem PSs.wk {e : List Stmt} {t t' : TS} (h : PSs X e t) (k : ∀ D σ H, t' D σ H → t D σ H) : PSs X e t' := ⟨fun pins s σ H Q I q => h.run pins s σ H Q I (k Q σ H q)⟩
structure DE (X : Cx) (Γ : Gm) (e : Expr) (t : Ed) : Prop where
  p : PE X e (up Γ t)
structure DT (X : Cx) (Γ : Gm) (e : Expr) (t : Td) : Prop where
  p : PT X e (upT Γ t)
structure DW (X : Cx) (Γ : Gm) (e : Expr) (t : Td) : Prop where
  p : PW X e (upT Γ t)
structure DA (X : Cx) (Γ : Gm) (es : List Expr) (t : Ad) : Prop where
  p : PA X es (upA Γ t)
/-! names, constants -/
def eVar (i : Nat) : Ed := fun ρ n => match ρ[i]? with
  | some (some d) => some (d, n)
  | _ => none
def eC (d : D) : Ed := fun _ n => some (d, n)
theorem eVar_some {i : Nat} {ρ : Sd} {n n' : Sx} {r : D} (h : eVar i ρ n = some (r, n')) : ρ[i]? = some (some r) ∧ n' = n := by
  unfold eVar at h
  split at h
  · rename_i d e; cases h; exact ⟨e, rfl⟩
  · cases h
theorem d_var {i : Nat} {e : Expr} (h : PE X e (tVar i)) (hi' : Γ.ow.contains i = false := by rfl) : DE X Γ e (eVar i) := have hi := nmem_of hi'; ⟨PE.wk h fun σ H Q ⟨R, ρ, n, r, n', rp, e, q⟩ => by
  obtain ⟨e1, rfl⟩ := eVar_some e
  obtain ⟨v, h1, h2⟩ := rp.fz i r hi e1
  exact ⟨v, h1, q v R H rp (Go.refl _ _ _) h2⟩⟩
theorem d_c {e : Expr} {v : V} {d : D} (h : PE X e (tC v)) (hv : ∀ R, Fz Γ.c R v d) : DE X Γ e (eC d) := ⟨PE.wk h fun σ H Q ⟨R, ρ, n, r, n', rp, e, q⟩ => by
  cases e
  exact q v R H rp (Go.refl _ _ _) (hv R)⟩
theorem d_int {i j pos} : DE X Γ (.Constant (.int i) j pos) (eC (.int i)) := d_c pe_int fun _ => .int i
theorem d_bl {i j pos} : DE X Γ (.Constant (.bool i) j pos) (eC (.bl i)) := d_c pe_bl fun _ => .bl i
theorem d_non {j pos} : DE X Γ (.Constant .none j pos) (eC .non) := d_c pe_non fun _ => .non
theorem d_str {x j pos} (hz : x.length ≤ sizeLine := by decide +kernel) : DE X Γ (.Constant (.str x) j pos) (eC (.str x)) := d_c pe_str fun _ => .str x hz
/-! arguments -/
def aNil : Ad := fun _ n => some ([], n)
def aCons (t : Ed) (u : Ad) : Ad := fun ρ => Mb (t ρ) fun x => Mb (u ρ) fun xs => Mp (x :: xs)
theorem da_nil : DA X Γ [] aNil := ⟨PA.wk pa_nil fun σ H Q ⟨R, ρ, n, r, n', rp, e, q⟩ => by
  cases e
  exact q [] R H rp (Go.refl _ _ _) .nil⟩
theorem da_cons {e : Expr} {es : List Expr} {t : Ed} {u : Ad} (ha : DE X Γ e t) (hr : DA X Γ es u) (hs : starEach (e :: es) X.env = (false, eval e X.env) :: starEach es X.env := by rfl) : DA X Γ (e :: es) (aCons t u) :=
  ⟨PA.wk (pa_cons ha.p hr.p hs) fun σ H Q ⟨R, ρ, n, r, n', rp, e, q⟩ => by
    obtain ⟨x, m, e1, e⟩ := Mb_some e
    obtain ⟨xs, m2, e2, e⟩ := Mb_some e
    cases e
    refine ⟨R, ρ, n, x, m, rp, e1, fun v R1 H1 rp1 S1 z1 => ⟨R1, ρ, m, xs, _, rp1, e2, fun vs R2 H2 rp2 S2 z2 => ?_⟩⟩
    exact q _ R2 H2 rp2 (S1.trans S2) (.cons (z1.mono S2.le) z2)⟩
theorem aCons_len {t : Ed} {u : Ad} {k : Nat} (h : ∀ ρ n r n', u ρ n = some (r, n') → r.length = k) : ∀ ρ n r n', aCons t u ρ n = some (r, n') → r.length = k + 1 := fun ρ n r n' e => by
  obtain ⟨x, m, e1, e⟩ := Mb_some e
  obtain ⟨xs, m2, e2, e⟩ := Mb_some e
  cases e
  rw [List.length_cons, h _ _ _ _ e2]
theorem aNil_len : ∀ ρ n r n', aNil ρ n = some (r, n') → r.length = 0 := fun ρ n r n' e => by cases e; rfl
/-! operators -/
def e1 (f : D → Option D) (a : Ed) : Ed := fun ρ => Mb (a ρ) fun x => Mo (f x)
def e2 (f : D → D → Option D) (a b : Ed) : Ed := fun ρ => Mb (a ρ) fun x => Mb (b ρ) fun y => Mo (f x y)
/-- a reading by values gives what the data say -/
def Gives (Γ : Gm) (R H : Hp) (d : D) (r : Hp → VK → Prop) : Prop := ∀ σ ρ n Q, Rp Γ R H σ ρ n → (∀ v R' H', Rp Γ R' H' σ ρ n → Go Γ R H R' H' → Fz Γ.c R' v d → Q v H') → r H Q
def Op2 (Γ : Gm) (r : R2) (f : D → D → Option D) : Prop := ∀ R H x y dx dy d, f dx dy = some d → Sm R H → Fz Γ.c R x dx → Fz Γ.c R y dy → Gives Γ R H d (r x y)
theorem gives_c {R H : Hp} {d : D} {v : V} {r : Hp → VK → Prop} (hv : Fz Γ.c R v d) (h : ∀ Q : VK, Q v H → r H Q) : Gives Γ R H d r := fun σ ρ n Q rp q => h Q (q v R H rp (Go.refl _ _ _) hv)
/-- a new frozen object -/
theorem gives_new {R H : Hp} {d : D} {o : HO} {r : Hp → VK → Prop} (hv : ∀ p R', R' p = some o → Same R R' → Fz Γ.c R' (.ref p) d) (h : ∀ Q : VK, (∀ p, H p = none → Q (.ref p) (upd H p o)) → r H Q) (ho : nm o := by first | exact nm_tup | exact nm_lst | exact nm_dK) : Gives Γ R H d r := fun σ ρ n Q rp q =>
  h Q fun p hp => q _ _ _ (rp.lay hp ho) (rp.go hp) (hv p _ upd_same (rp.go hp).same)
theorem d_op {a b : Expr} {ta tb : Ed} {op : Operator} {r : R2} {f : D → D → Option D} {pos : Pos} (ho : OpR X (binaryOp op) r) (hf : Op2 Γ r f) (ha : DE X Γ a ta) (hb : DE X Γ b tb) : DE X Γ (.BinOp a op b pos) (e2 f ta tb) :=
  ⟨PE.wk (pe_op ho ha.p hb.p) fun σ H Q ⟨R, ρ, n, r, n', rp, e, q⟩ => by
    obtain ⟨x, m, e1, e⟩ := Mb_some e
    obtain ⟨y, m2, e2, e⟩ := Mb_some e
    obtain ⟨ee, rfl⟩ := Mo_some e
    refine ⟨R, ρ, n, x, m, rp, e1, fun v R1 H1 rp1 S1 z1 => ⟨R1, ρ, m, y, _, rp1, e2, fun u R2 H2 rp2 S2 z2 => ?_⟩⟩
    exact hf R2 H2 v u x y r ee rp2.hp.same (z1.mono S2.le) z2 σ ρ _ Q rp2 fun w R3 H3 rp3 S3 z3 => q w R3 H3 rp3 ((S1.trans S2).trans S3) z3⟩
theorem d_cmp {a b : Expr} {ta tb : Ed} {op : CmpOp} {r : R2} {f : D → D → Option D} {pos : Pos} (ho : OpR X (compareOp op) r) (hf : Op2 Γ r f) (ha : DE X Γ a ta) (hb : DE X Γ b tb) (hm : behindInMarks op b = false) : DE X Γ (.Compare a [op] [b] pos) (e2 f ta tb) :=
  ⟨PE.wk (pe_cmpR ho ha.p hb.p hm) fun σ H Q ⟨R, ρ, n, r, n', rp, e, q⟩ => by
    obtain ⟨x, m, e1, e⟩ := Mb_some e
    obtain ⟨y, m2, e2, e⟩ := Mb_some e
    obtain ⟨ee, rfl⟩ := Mo_some e
    refine ⟨R, ρ, n, x, m, rp, e1, fun v R1 H1 rp1 S1 z1 => ⟨R1, ρ, m, y, _, rp1, e2, fun u R2 H2 rp2 S2 z2 => ?_⟩⟩
    exact hf R2 H2 v u x y r ee rp2.hp.same (z1.mono S2.le) z2 σ ρ _ Q rp2 fun w R3 H3 rp3 S3 z3 => q w R3 H3 rp3 ((S1.trans S2).trans S3) z3⟩
theorem d_un {a : Expr} {ta : Ed} {op : UnaryOp} {r : V → Hp → VK → Prop} {f : D → Option D} {pos : Pos} (ho : UnR X (unaryOp op) r) (hf : ∀ R H x dx d, f dx = some d → Sm R H → Fz Γ.c R x dx → Gives Γ R H d (r x)) (ha : DE X Γ a ta) : DE X Γ (.UnaryOp op a pos) (e1 f ta) :=
  ⟨PE.wk (pe_un ho ha.p) fun σ H Q ⟨R, ρ, n, r, n', rp, e, q⟩ => by
    obtain ⟨x, m, e1, e⟩ := Mb_some e
    obtain ⟨ee, rfl⟩ := Mo_some e
    refine ⟨R, ρ, n, x, _, rp, e1, fun v R1 H1 rp1 S1 z1 => ?_⟩
    exact hf R1 H1 v x r ee rp1.hp.same z1 σ ρ _ Q rp1 fun w R3 H3 rp3 S3 z3 => q w R3 H3 rp3 (S1.trans S3) z3⟩
def fNeg : D → Option D
  | .int i => some (.int (-i))
  | _ => none
theorem d_neg {a : Expr} {ta : Ed} {pos : Pos} (ha : DE X Γ a ta) : DE X Γ (.UnaryOp .USub a pos) (e1 fNeg ta) := d_un un_neg (fun R H x dx d e _ z => by
  cases z with
  | int i => cases e; exact gives_c (.int _) fun Q q => ⟨i, rfl, q⟩
  | _ => cases e) ha
def fSub : D → D → Option D
  | .int i, .int j => some (.int (i - j))
  | _, _ => none
theorem d_sub {a b : Expr} {ta tb : Ed} {pos : Pos} (ha : DE X Γ a ta) (hb : DE X Γ b tb) : DE X Γ (.BinOp a .Sub b pos) (e2 fSub ta tb) := d_op op_sub (fun R H x y dx dy d e _ z1 z2 => by
  cases z1 with
  | int i => cases z2 with
    | int j => cases e; exact gives_c (.int _) fun Q q => ⟨i, j, rfl, rfl, q⟩
    | _ => cases e
  | _ => cases e) ha hb
def fMod : D → D → Option D
  | .int i, .int j => if 0 < j then some (.int (i % j)) else none
  | _, _ => none
theorem d_mod {a b : Expr} {ta tb : Ed} {pos : Pos} (ha : DE X Γ a ta) (hb : DE X Γ b tb) : DE X Γ (.BinOp a .Mod b pos) (e2 fMod ta tb) := d_op op_mod (fun R H x y dx dy d e _ z1 z2 => by
  cases z1 with
  | int i => cases z2 with
    | int j =>
      obtain ⟨hj, e⟩ := ite_some e
      cases e; exact gives_c (.int _) fun Q q => ⟨i, j, rfl, rfl, hj, q⟩
    | _ => cases e
  | _ => cases e) ha hb
def fDiv : D → D → Option D
  | .int i, .int j => if 0 < j ∧ j < 1073741824 then some (.int (i / j)) else none
  | _, _ => none
theorem d_div {a b : Expr} {ta tb : Ed} {pos : Pos} (ha : DE X Γ a ta) (hb : DE X Γ b tb) : DE X Γ (.BinOp a .FloorDiv b pos) (e2 fDiv ta tb) := d_op op_fdiv (fun R H x y dx dy d e _ z1 z2 => by
  cases z1 with
  | int i => cases z2 with
    | int j =>
      obtain ⟨hj, e⟩ := ite_some e
      cases e; exact gives_c (.int _) fun Q q => ⟨i, j, rfl, rfl, hj, q⟩
    | _ => cases e
  | _ => cases e) ha hb
end
end Sh

set_option Elab.async false
set_option linter.all false
set_option maxRecDepth 100000
namespace Sh
open PySem PySem.Spec PyProof.Rows L2
theorem op_mul_str {X : Cx} : OpR X (binaryOp .Mult) (fun x y H Q => ∃ z i, x = .str z ∧ y = .int i ∧ z.length ≤ 16 ∧ -(2 ^ 63 : Int) ≤ i ∧ i ≤ 1048576 ∧ Q (.str (Txt.mul z i)) H) := by
  intro pins s σ H x y v u Q I rx ry h
  obtain ⟨z, i, rfl, rfl, h1, h2, h3, q⟩ := h
  obtain ⟨t, rfl⟩ := rx
  obtain ⟨t2, rfl⟩ := ry
  exact PySem.W.KXi.mul rfl h1 h2 h3 fun t3 k _ _ => ⟨.str (Txt.mul z i), H, I.tok _, ⟨_, rfl⟩, q⟩
end Sh
namespace Sh
open PySem L2 Nf
section
variable {X : Cx} {Γ : Gm} {a b : Expr} {ta tb : Ed} {pos : Pos}
def szl {α : Type} (n : Nat) (x : α) : Option α := if n ≤ sizeLine then some x else none
theorem szl_some {α : Type} {n : Nat} {x y : α} (h : szl n x = some y) : n ≤ sizeLine ∧ x = y := by
  obtain ⟨a, b⟩ := ite_some h
  exact ⟨a, Option.some.inj b⟩
def fAdd : D → D → Option D
  | .int i, .int j => some (.int (i + j))
  | .str x, .str y => szl (x.length + y.length) (.str (x ++ y))
  | .lst x, .lst y => szl (x.length + y.length) (.lst (x ++ y))
  | .tup x, .tup y => szl (x.length + y.length) (.tup (x ++ y))
  | _, _ => none
theorem len_append (x y : Str) : (x ++ y).length = x.length + y.length := Array.size_append
theorem d_add (ha : DE X Γ a ta) (hb : DE X Γ b tb) (hK : X.K = Γ.c.K := by rfl) : DE X Γ (.BinOp a .Add b pos) (e2 fAdd ta tb) := by
  refine d_op (op_add.or (op_add_str.or (op_cat.or op_catA))) (fun R H x y dx dy d e S z1 z2 => ?_) ha hb
  cases z1 with
  | int i => cases z2 with
    | int j => cases e; exact gives_c (.int _) fun Q q => .inl ⟨i, j, rfl, rfl, q⟩
    | _ => cases e
  | str i h1 => cases z2 with
    | str j h2 =>
      obtain ⟨hz, rfl⟩ := szl_some e
      exact gives_c (.str _ (by rw [len_append]; exact hz)) fun Q q => .inr (.inl ⟨i, j, rfl, rfl, hz, q⟩)
    | _ => cases e
  | lst h1 l1 a1 => cases z2 with
    | lst h2 l2 a2 =>
      obtain ⟨hz, rfl⟩ := szl_some e
      rw [← a1.len, ← a2.len] at hz
      refine gives_new (o := .lst _) (fun p R' e' S' => .lst e' ?_ ((a1.app a2).mono S'.le)) fun Q q => .inr (.inr (.inl ⟨_, _, _, _, rfl, rfl, S.l h1, S.l h2, hz, q⟩))
      rw [List.length_append]; exact hz
    | _ => cases e
  | tup h1 l1 a1 => cases z2 with
    | tup h2 l2 a2 =>
      obtain ⟨hz, rfl⟩ := szl_some e
      rw [← a1.len, ← a2.len] at hz
      rw [hK]
      intro σ ρ n Q rp q
      refine .inr (.inr (.inr ⟨_, _, _, _, rfl, rfl, S.sqT h1, S.sqT h2, hz, fun e1 => ?_, fun _ e1 => ?_, fun _ _ p hp => ?_⟩))
      · subst e1
        cases a1
        exact q _ R H rp (Go.refl _ _ _) (.tup h2 l2 (by simpa using a2))
      · subst e1
        cases a2
        exact q _ R H rp (Go.refl _ _ _) (.tup h1 l1 (by simpa using a1))
      · exact q _ _ _ (rp.lay hp) (rp.go hp) (.tup (SqT.of upd_same) (by rw [List.length_append]; exact hz) ((a1.app a2).mono (rp.go hp).le))
    | _ => cases e
  | _ => cases e
def fMul : D → D → Option D
  | .int i, .int j => if (-(2 ^ 64) < i ∧ i < 2 ^ 64) ∨ (-(2 ^ 64) < j ∧ j < 2 ^ 64) then some (.int (i * j)) else none
  | .str x, .int i => if x.length ≤ 16 ∧ -(2 ^ 63 : Int) ≤ i ∧ i ≤ 1048576 ∧ (Txt.mul x i).length ≤ sizeLine then some (.str (Txt.mul x i)) else none
  | .lst x, .int k => if -(2 ^ 63 : Int) ≤ k ∧ k < 2 ^ 63 ∧ x.length * k.toNat ≤ sizeLine then some (.lst (List.replicate k.toNat x).flatten) else none
  | _, _ => none
theorem fzA_rep {c : Cn} {R : Hp} {vs : List V} {ds : List D} (h : FzA c R vs ds) : ∀ k : Nat, FzA c R (List.replicate k vs).flatten (List.replicate k ds).flatten
  | 0 => .nil
  | k + 1 => by
    rw [List.replicate_succ, List.replicate_succ, List.flatten_cons, List.flatten_cons]
    exact h.app (fzA_rep h k)
theorem d_mul (ha : DE X Γ a ta) (hb : DE X Γ b tb) : DE X Γ (.BinOp a .Mult b pos) (e2 fMul ta tb) := by
  refine d_op (op_mul.or (op_mul_str.or op_rep)) (fun R H x y dx dy d e S z1 z2 => ?_) ha hb
  cases z1 with
  | int i => cases z2 with
    | int j =>
      obtain ⟨hz, e⟩ := ite_some e
      cases e; exact gives_c (.int _) fun Q q => .inl ⟨i, j, rfl, rfl, hz, q⟩
    | _ => cases e
  | str i h1 => cases z2 with
    | int j =>
      obtain ⟨hz, e⟩ := ite_some e
      cases e
      exact gives_c (.str _ hz.2.2.2) fun Q q => .inr (.inl ⟨i, j, rfl, rfl, hz.1, hz.2.1, hz.2.2.1, q⟩)
    | _ => cases e
  | @lst l xs ds h1 l1 a1 => cases z2 with
    | int j =>
      obtain ⟨hz, e⟩ := ite_some e
      cases e
      rw [← a1.len] at hz
      refine gives_new (o := .lst _) (fun p R' e' S' => .lst e' ?_ ((fzA_rep a1 _).mono S'.le)) fun Q q => .inr (.inr ⟨_, _, _, rfl, rfl, S.l h1, hz.1, hz.2.1, hz.2.2, q⟩)
      rw [List.length_flatten, List.map_replicate, List.sum_replicate_nat, Nat.mul_comm]; exact hz.2.2
    | _ => cases e
  | _ => cases e
def fPow : D → D → Option D
  | .int i, .int j => if 0 ≤ j ∧ j ≤ 1000000 ∧ i.natAbs < 2 ^ 64 then some (.int (i ^ j.toNat)) else none
  | _, _ => none
theorem d_pow (ha : DE X Γ a ta) (hb : DE X Γ b tb) : DE X Γ (.BinOp a .Pow b pos) (e2 fPow ta tb) := d_op op_pow (fun R H x y dx dy d e _ z1 z2 => by
  cases z1 with
  | int i => cases z2 with
    | int j =>
      obtain ⟨hj, e⟩ := ite_some e
      cases e; exact gives_c (.int _) fun Q q => ⟨i, j, rfl, rfl, hj, q⟩
    | _ => cases e
  | _ => cases e) ha hb
/-! comparisons of numbers -/
def fI (p : Int → Int → Bool) : D → D → Option D
  | .int i, .int j => some (.bl (p i j))
  | _, _ => none
theorem op2I {p : Int → Int → Bool} : Op2 Γ (rI0 fun i j => .bl (p i j)) (fI p) := fun R H x y dx dy d e _ z1 z2 => by
  cases z1 with
  | int i => cases z2 with
    | int j => cases e; exact gives_c (.bl _) fun Q q => ⟨i, j, rfl, rfl, q⟩
    | _ => cases e
  | _ => cases e
def fLt := fI fun i j => decide (i < j)
def fLe := fI fun i j => decide (i ≤ j)
def fGt := fI fun i j => decide (j < i)
def fGe := fI fun i j => decide (j ≤ i)
theorem o2Lt : Op2 Γ (rI0 fun i j => .bl (decide (i < j))) fLt := op2I
theorem o2Le : Op2 Γ (rI0 fun i j => .bl (decide (i ≤ j))) fLe := op2I
theorem o2Gt : Op2 Γ (rI0 fun i j => .bl (decide (j < i))) fGt := op2I
theorem o2Ge : Op2 Γ (rI0 fun i j => .bl (decide (j ≤ i))) fGe := op2I
/-! is None -/
def isNon : D → Bool
  | .non => true
  | _ => false
theorem Fz.isNon {c : Cn} {R : Hp} {v : V} {d : D} (h : Fz c R v d) : decide (v = .non) = Sh.isNon d := by cases h <;> rfl
def fIs : D → D → Option D
  | x, .non => some (.bl (isNon x))
  | _, _ => none
def fIsNot : D → D → Option D
  | x, .non => some (.bl (!isNon x))
  | _, _ => none
theorem o2Is : Op2 Γ (fun x y H Q => y = .non ∧ Q (.bl (decide (x = .non))) H) fIs := fun R H x y dx dy d e _ z1 z2 => by
  cases z2 with
  | non =>
    have e' : some (D.bl (isNon dx)) = some d := by cases dx <;> exact e
    cases e'
    exact gives_c (.bl _) fun Q q => ⟨rfl, by rw [z1.isNon]; exact q⟩
  | _ => cases dx <;> cases e
theorem o2IsNot : Op2 Γ (fun x y H Q => y = .non ∧ Q (.bl (!decide (x = .non))) H) fIsNot := fun R H x y dx dy d e _ z1 z2 => by
  cases z2 with
  | non =>
    have e' : some (D.bl (!isNon dx)) = some d := by cases dx <;> exact e
    cases e'
    exact gives_c (.bl _) fun Q q => ⟨rfl, by rw [z1.isNon]; exact q⟩
  | _ => cases dx <;> cases e
/-! == and != -/
mutual
def D.py : D → Option PyData
  | .non => some .none
  | .bl b => some (.bool b)
  | .int i => some (.int i)
  | .str x => some (.str x)
  | .tup ds => (D.pyA ds).map .tuple
  | .lst ds => (D.pyA ds).map .list
  | _ => none
def D.pyA : List D → Option (List PyData)
  | [] => some []
  | d :: r => match D.py d, D.pyA r with
    | some p, some q => some (p :: q)
    | _, _ => none
end
mutual
theorem Fz.dp {c : Cn} {R H : Hp} (S : Sm R H) : ∀ {v : V} {d : D} {p : PyData}, Fz c R v d → d.py = some p → Dp c.K H v p
  | _, _, _, .non, e => by cases (show some PyData.none = _ from e); exact .non
  | _, _, _, .bl b, e => by cases (show some (PyData.bool b) = _ from e); exact .bl b
  | _, _, _, .int i, e => by cases (show some (PyData.int i) = _ from e); exact .int i
  | _, _, _, .str x _, e => by cases (show some (PyData.str x) = _ from e); exact .str x
  | _, .tup ds, _, .tup h _ q, e => by
    simp only [D.py] at e
    obtain ⟨ps, e1, rfl⟩ := Option.map_eq_some_iff.mp e
    exact .tup (S.sqT h) (FzA.dp S q e1)
  | _, .lst ds, _, .lst h _ q, e => by
    simp only [D.py] at e
    obtain ⟨ps, e1, rfl⟩ := Option.map_eq_some_iff.mp e
    exact .lst (SqL.of (S.l h)) (FzA.dp S q e1)
  | _, _, _, .dk _ _ _, e => by simp [D.py] at e
  | _, _, _, .ins _ _, e => by simp [D.py] at e
  | _, _, _, .deck, e => by simp [D.py] at e
theorem FzA.dp {c : Cn} {R H : Hp} (S : Sm R H) : ∀ {v : List V} {d : List D} {p : List PyData}, FzA c R v d → D.pyA d = some p → DpAll c.K H v p
  | _, _, _, .nil, e => by simp only [D.pyA] at e; cases e; exact .nil
  | _, _, _, .cons h q, e => by
    simp only [D.pyA] at e
    split at e
    · rename_i p ps e1 e2; cases e; exact .cons (Fz.dp S h e1) (FzA.dp S q e2)
    · cases e
end
/-- == of data: texts and scalars first -/
def D.eqb : D → D → Option Bool
  | .str x, .str y => some (decide (x = y))
  | .int i, .int j => some (decide (i = j))
  | x, y => match x.py, y.py with
    | some p, some q => if SeqAt.shaped p = true ∧ SeqAt.shaped q = true then some (PyData.eqv p q) else none
    | _, _ => none
def fEq (x y : D) : Option D := (D.eqb x y).map .bl
def fNe (x y : D) : Option D := (D.eqb x y).map fun b => .bl (!b)
theorem eqb_cases {x y : D} {b : Bool} (h : D.eqb x y = some b) : (∃ s t, x = .str s ∧ y = .str t ∧ b = decide (s = t)) ∨ (∃ i j, x = .int i ∧ y = .int j ∧ b = decide (i = j)) ∨
    ∃ p q, x.py = some p ∧ y.py = some q ∧ SeqAt.shaped p = true ∧ SeqAt.shaped q = true ∧ b = PyData.eqv p q := by
  unfold D.eqb at h
  split at h
  · cases h; exact .inl ⟨_, _, rfl, rfl, rfl⟩
  · cases h; exact .inr (.inl ⟨_, _, rfl, rfl, rfl⟩)
  · split at h
    · rename_i p q e1 e2
      obtain ⟨hs, e⟩ := ite_some h
      cases e
      exact .inr (.inr ⟨p, q, e1, e2, hs.1, hs.2, rfl⟩)
    · cases h
theorem o2Eq (hK : X.K = Γ.c.K) : Op2 Γ (fun x y H Q => rEq x y H Q ∨ rEqD X.K x y H Q) fEq := fun R H x y dx dy d e S z1 z2 => by
  obtain ⟨b, e1, rfl⟩ := Option.map_eq_some_iff.mp e
  rcases eqb_cases e1 with ⟨s, t, rfl, rfl, rfl⟩ | ⟨i, j, rfl, rfl, rfl⟩ | ⟨p, q, ep, eq, h1, h2, rfl⟩
  · obtain ⟨rfl, _⟩ := z1.str_inv
    obtain ⟨rfl, _⟩ := z2.str_inv
    refine gives_c (.bl _) fun Q q => .inl ⟨rfl, ?_⟩
    rw [show decide (V.str s = V.str t) = decide (s = t) by simp]; exact q
  · cases z1.int_inv
    cases z2.int_inv
    refine gives_c (.bl _) fun Q q => .inl ⟨rfl, ?_⟩
    rw [show decide (V.int i = V.int j) = decide (i = j) by simp]; exact q
  · exact gives_c (.bl _) fun Q qq => .inr ⟨p, q, hK ▸ z1.dp S ep, hK ▸ z2.dp S eq, h1, h2, qq⟩
theorem o2Ne (hK : X.K = Γ.c.K) : Op2 Γ (fun x y H Q => rNe x y H Q ∨ rNeD X.K x y H Q) fNe := fun R H x y dx dy d e S z1 z2 => by
  obtain ⟨b, e1, rfl⟩ := Option.map_eq_some_iff.mp e
  rcases eqb_cases e1 with ⟨s, t, rfl, rfl, rfl⟩ | ⟨i, j, rfl, rfl, rfl⟩ | ⟨p, q, ep, eq, h1, h2, rfl⟩
  · obtain ⟨rfl, _⟩ := z1.str_inv
    obtain ⟨rfl, _⟩ := z2.str_inv
    refine gives_c (.bl _) fun Q q => .inl ⟨rfl, ?_⟩
    rw [show decide (V.str s = V.str t) = decide (s = t) by simp]; exact q
  · cases z1.int_inv
    cases z2.int_inv
    refine gives_c (.bl _) fun Q q => .inl ⟨rfl, ?_⟩
    rw [show decide (V.int i = V.int j) = decide (i = j) by simp]; exact q
  · exact gives_c (.bl _) fun Q qq => .inr ⟨p, q, hK ▸ z1.dp S ep, hK ▸ z2.dp S eq, h1, h2, qq⟩
/-! x in xs, x of no parts -/
def D.flt : D → Bool
  | .non => true
  | .bl _ => true
  | .int _ => true
  | .str _ => true
  | _ => false
def eqF : D → D → Bool
  | .non, .non => true
  | .bl a, .bl b => a == b
  | .bl a, .int b => (if a then 1 else 0) == b
  | .int a, .bl b => a == (if b then 1 else 0)
  | .int a, .int b => a == b
  | .str a, .str b => a == b
  | _, _ => false
theorem Fz.flt {c : Cn} {R : Hp} {v : V} {d : D} (h : Fz c R v d) : flatV v = D.flt d := by cases h <;> rfl
theorem Fz.eqF {c : Cn} {R : Hp} {v u : V} {d e : D} (h : Fz c R v d) (k : Fz c R u e) : eqV v u = Sh.eqF d e := by cases h <;> cases k <;> rfl
theorem FzA.flt {c : Cn} {R : Hp} : ∀ {v : List V} {d : List D}, FzA c R v d → v.all flatV = d.all D.flt
  | _, _, .nil => rfl
  | _, _, .cons h q => by rw [List.all_cons, List.all_cons, h.flt, FzA.flt q]
theorem FzA.inF {c : Cn} {R : Hp} {u : V} {e : D} (k : Fz c R u e) : ∀ {v : List V} {d : List D}, FzA c R v d → inV u v = d.any fun y => Sh.eqF y e
  | _, _, .nil => rfl
  | _, _, .cons h q => by
    have := FzA.inF k q
    unfold inV at this ⊢
    rw [List.any_cons, List.any_cons, h.eqF k, this]
def inD (x : D) : D → Option Bool
  | .tup ds => if x.flt = true ∧ ds.all D.flt = true then some (ds.any fun y => eqF y x) else none
  | .lst ds => if x.flt = true ∧ ds.all D.flt = true then some (ds.any fun y => eqF y x) else none
  | .str z => match x with
    | .str y => some (!(Builtin.Str.occurrences z y 0 z.length 1).isEmpty)
    | _ => none
  | _ => none
def fIn (x y : D) : Option D := (inD x y).map .bl
def fNotIn (x y : D) : Option D := (inD x y).map fun b => .bl (!b)
theorem inD_seq {x : D} {ds : List D} {b : Bool} (h : (if x.flt = true ∧ ds.all D.flt = true then some (ds.any fun y => eqF y x) else none) = some b) : x.flt = true ∧ ds.all D.flt = true ∧ b = ds.any fun y => eqF y x := by
  obtain ⟨h, e⟩ := ite_some h
  exact ⟨h.1, h.2, (Option.some.inj e).symm⟩
theorem o2In (hK : X.K = Γ.c.K) : Op2 Γ (fun x y H Q => rIn X.K false x y H Q ∨ ∃ i j, x = .str i ∧ y = .str j ∧ Q (.bl (!(Builtin.Str.occurrences j i 0 j.length 1).isEmpty)) H) fIn := fun R H x y dx dy d e S z1 z2 => by
  obtain ⟨b, e1, rfl⟩ := Option.map_eq_some_iff.mp e
  cases z2 with
  | tup h l q =>
    obtain ⟨f1, f2, rfl⟩ := inD_seq e1
    refine gives_c (.bl _) fun Q qq => .inl ⟨_, _, rfl, .inr (hK ▸ S.sqT h), by rw [z1.flt]; exact f1, by rw [q.flt]; exact f2, ?_⟩
    rw [if_neg (by decide), q.inF z1]; exact qq
  | lst h l q =>
    obtain ⟨f1, f2, rfl⟩ := inD_seq e1
    refine gives_c (.bl _) fun Q qq => .inl ⟨_, _, rfl, .inl (SqL.of (S.l h)), by rw [z1.flt]; exact f1, by rw [q.flt]; exact f2, ?_⟩
    rw [if_neg (by decide), q.inF z1]; exact qq
  | str j hj =>
    cases z1 with
    | str i hi =>
      have e1' : some (!(Builtin.Str.occurrences j i 0 j.length 1).isEmpty) = some b := e1
      cases e1'
      exact gives_c (.bl _) fun Q qq => .inr ⟨i, j, rfl, rfl, qq⟩
    | _ => cases e1
  | _ => cases e1
theorem o2NotIn (hK : X.K = Γ.c.K) : Op2 Γ (fun x y H Q => rIn X.K true x y H Q ∨ ∃ i j, x = .str i ∧ y = .str j ∧ Q (.bl (!(!(Builtin.Str.occurrences j i 0 j.length 1).isEmpty))) H) fNotIn := fun R H x y dx dy d e S z1 z2 => by
  obtain ⟨b, e1, rfl⟩ := Option.map_eq_some_iff.mp e
  cases z2 with
  | tup h l q =>
    obtain ⟨f1, f2, rfl⟩ := inD_seq e1
    refine gives_c (.bl _) fun Q qq => .inl ⟨_, _, rfl, .inr (hK ▸ S.sqT h), by rw [z1.flt]; exact f1, by rw [q.flt]; exact f2, ?_⟩
    rw [if_pos rfl, q.inF z1]; exact qq
  | lst h l q =>
    obtain ⟨f1, f2, rfl⟩ := inD_seq e1
    refine gives_c (.bl _) fun Q qq => .inl ⟨_, _, rfl, .inl (SqL.of (S.l h)), by rw [z1.flt]; exact f1, by rw [q.flt]; exact f2, ?_⟩
    rw [if_pos rfl, q.inF z1]; exact qq
  | str j hj =>
    cases z1 with
    | str i hi =>
      have e1' : some (!(Builtin.Str.occurrences j i 0 j.length 1).isEmpty) = some b := e1
      cases e1'
      exact gives_c (.bl _) fun Q qq => .inr ⟨i, j, rfl, rfl, qq⟩
    | _ => cases e1
  | _ => cases e1
end
section
variable {X : Cx} {Γ : Gm} {a b : Expr} {ta tb : Ed} {pos : Pos}
theorem d_lt (ha : DE X Γ a ta) (hb : DE X Γ b tb) : DE X Γ (.Compare a [.Lt] [b] pos) (e2 fLt ta tb) := d_cmp op_lt o2Lt ha hb (nomark _)
theorem d_le (ha : DE X Γ a ta) (hb : DE X Γ b tb) : DE X Γ (.Compare a [.LtE] [b] pos) (e2 fLe ta tb) := d_cmp op_le o2Le ha hb (nomark _)
theorem d_gt (ha : DE X Γ a ta) (hb : DE X Γ b tb) : DE X Γ (.Compare a [.Gt] [b] pos) (e2 fGt ta tb) := d_cmp op_gt o2Gt ha hb (nomark _)
theorem d_ge (ha : DE X Γ a ta) (hb : DE X Γ b tb) : DE X Γ (.Compare a [.GtE] [b] pos) (e2 fGe ta tb) := d_cmp op_ge o2Ge ha hb (nomark _)
theorem d_is (ha : DE X Γ a ta) (hb : DE X Γ b tb) : DE X Γ (.Compare a [.Is] [b] pos) (e2 fIs ta tb) := d_cmp op_isN o2Is ha hb (nomark _)
theorem d_isnot (ha : DE X Γ a ta) (hb : DE X Γ b tb) : DE X Γ (.Compare a [.IsNot] [b] pos) (e2 fIsNot ta tb) := d_cmp op_notN o2IsNot ha hb (nomark _)
theorem d_eq (hu : X.A.units + 64 < cLine) (ha : DE X Γ a ta) (hb : DE X Γ b tb) (hK : X.K = Γ.c.K := by rfl) : DE X Γ (.Compare a [.Eq] [b] pos) (e2 fEq ta tb) := d_cmp (op_eq.or (op_eqD hu)) (o2Eq hK) ha hb (nomark _)
theorem d_ne (hu : X.A.units + 64 < cLine) (ha : DE X Γ a ta) (hb : DE X Γ b tb) (hK : X.K = Γ.c.K := by rfl) : DE X Γ (.Compare a [.NotEq] [b] pos) (e2 fNe ta tb) := d_cmp (op_ne.or (op_neD hu)) (o2Ne hK) ha hb (nomark _)
theorem d_in (ha : DE X Γ a ta) (hb : DE X Γ b tb) (hm : behindInMarks .In b = false := by rfl) (hK : X.K = Γ.c.K := by rfl) : DE X Γ (.Compare a [.In] [b] pos) (e2 fIn ta tb) := d_cmp (op_in_seq.or op_in_str) (o2In hK) ha hb hm
theorem d_notin (ha : DE X Γ a ta) (hb : DE X Γ b tb) (hm : behindInMarks .NotIn b = false := by rfl) (hK : X.K = Γ.c.K := by rfl) : DE X Γ (.Compare a [.NotIn] [b] pos) (e2 fNotIn ta tb) := d_cmp (op_notIn_seq.or op_notin_str) (o2NotIn hK) ha hb hm
end
end Sh

set_option Elab.async false
set_option linter.all false
set_option maxRecDepth 100000
namespace Sh
open PySem L2 Nf
/-! tests -/
def fTr : D → Option Bool
  | .non => some false
  | .bl b => some b
  | .int i => some (i != 0)
  | .str x => some ((x.length : Int) != 0)
  | .tup ds => some (!ds.isEmpty)
  | .lst ds => some (!ds.isEmpty)
  | _ => none
def trB (t : Ed) : Td := fun ρ => Mb (t ρ) fun d => Mo (fTr d)
def tNt (t : Td) : Td := fun ρ => Mb (t ρ) fun b => Mp (!b)
def tAn (t u : Td) : Td := fun ρ => Mb (t ρ) fun b => if b = true then u ρ else Mp false
def tOr' (t u : Td) : Td := fun ρ => Mb (t ρ) fun b => if b = true then Mp true else u ρ
def vAn (t u : Ed) : Ed := fun ρ => Mb (t ρ) fun x => Mb (Mo (fTr x)) fun b => if b = true then u ρ else Mp x
def vOr (t u : Ed) : Ed := fun ρ => Mb (t ρ) fun x => Mb (Mo (fTr x)) fun b => if b = true then Mp x else u ρ
def vIf (c : Td) (t u : Ed) : Ed := fun ρ => Mb (c ρ) fun b => if b = true then t ρ else u ρ
def fNot (d : D) : Option D := (fTr d).map fun b => .bl (!b)
theorem isEmpty_fz {c : Cn} {R : Hp} {xs : List V} {ds : List D} (h : FzA c R xs ds) : xs.isEmpty = ds.isEmpty := by cases h <;> rfl
theorem Fz.tru {c : Cn} {R H : Hp} {v : V} {d : D} {b : Bool} (S : Sm R H) (h : Fz c R v d) (e : fTr d = some b) : TruV c.K v H b := by
  cases h with
  | non => cases e; rfl
  | bl x => cases e; rfl
  | int i => cases e; rfl
  | str x z => cases e; exact ⟨z, rfl⟩
  | tup h _ q => cases e; exact .inr (.inl ⟨_, S.sqT h, by rw [isEmpty_fz q]⟩)
  | lst h _ q => cases e; exact .inl ⟨_, SqL.of (S.l h), by rw [isEmpty_fz q]⟩
  | dk h _ q => cases e
  | ins _ _ => cases e
  | deck => cases e
  | shr _ => cases e
section
variable {X : Cx} {Γ : Gm} {a b : Expr} {ta tb : Ed} {pos : Pos} {rest : List Expr}
theorem dt_tr (ha : DE X Γ a ta) (hK : X.K = Γ.c.K := by rfl) (he : ∀ whole, isTrue a X.env whole = (do let v ← whole; standAt a.pos; holding [v] (truthy v)) := by intro _; rfl) : DT X Γ a (trB ta) :=
  ⟨PT.wk (pt_truth ha.p he) fun σ H Q ⟨R, ρ, n, r, n', rp, e, q⟩ => by
    obtain ⟨x, m, e1, e⟩ := Mb_some e
    obtain ⟨ee, rfl⟩ := Mo_some e
    exact ⟨R, ρ, n, x, _, rp, e1, fun v R1 H1 rp1 S1 z1 => ⟨r, hK ▸ z1.tru rp1.hp.same ee, q R1 H1 rp1 S1⟩⟩⟩
/-- the answers are True and False -/
def Bf (f : D → D → Option D) : Prop := ∀ x y d, f x y = some d → ∃ k, d = .bl k
theorem dt_cmp {op : CmpOp} {r : R2} {f : D → D → Option D} (ho : OpR X (compareOp op) r) (hf : Op2 Γ r f) (hb' : Bf f) (ha : DE X Γ a ta) (hb : DE X Γ b tb) (hm : behindInMarks op b = false) : DT X Γ (.Compare a [op] [b] pos) (trB (e2 f ta tb)) :=
  ⟨PT.wk (pt_cmpR ho ha.p hb.p hm) fun σ H Q ⟨R, ρ, n, r, n', rp, e, q⟩ => by
    obtain ⟨d, m0, e0, e⟩ := Mb_some e
    obtain ⟨er, rfl⟩ := Mo_some e
    obtain ⟨x, m, e1, e⟩ := Mb_some e0
    obtain ⟨y, m2, e2, e⟩ := Mb_some e
    obtain ⟨ee, rfl⟩ := Mo_some e
    obtain ⟨k, rfl⟩ := hb' _ _ _ ee
    cases er
    refine ⟨R, ρ, n, x, m, rp, e1, fun v R1 H1 rp1 S1 z1 => ⟨R1, ρ, m, y, _, rp1, e2, fun u R2 H2 rp2 S2 z2 => ?_⟩⟩
    exact hf R2 H2 v u x y _ ee rp2.hp.same (z1.mono S2.le) z2 σ ρ _ _ rp2 fun w R3 H3 rp3 S3 z3 => ⟨_, z3.bl_inv, q R3 H3 rp3 ((S1.trans S2).trans S3)⟩⟩
theorem bf_I {p : Int → Int → Bool} : Bf (fI p) := fun x y d h => by
  cases x <;> cases y <;> first | (cases h; done) | (cases h; exact ⟨_, rfl⟩)
theorem bf_is : Bf fIs := fun x y d h => by
  cases y <;> cases x <;> first | (cases h; done) | (cases h; exact ⟨_, rfl⟩)
theorem bf_isnot : Bf fIsNot := fun x y d h => by
  cases y <;> cases x <;> first | (cases h; done) | (cases h; exact ⟨_, rfl⟩)
theorem bf_map {g : D → D → Option Bool} {k : Bool → Bool} : Bf fun x y => (g x y).map fun b => .bl (k b) := fun x y d h => by
  obtain ⟨b, _, rfl⟩ := Option.map_eq_some_iff.mp h
  exact ⟨_, rfl⟩
theorem dt_lt (ha : DE X Γ a ta) (hb : DE X Γ b tb) : DT X Γ (.Compare a [.Lt] [b] pos) (trB (e2 fLt ta tb)) := dt_cmp op_lt o2Lt bf_I ha hb (nomark _)
theorem dt_le (ha : DE X Γ a ta) (hb : DE X Γ b tb) : DT X Γ (.Compare a [.LtE] [b] pos) (trB (e2 fLe ta tb)) := dt_cmp op_le o2Le bf_I ha hb (nomark _)
theorem dt_gt (ha : DE X Γ a ta) (hb : DE X Γ b tb) : DT X Γ (.Compare a [.Gt] [b] pos) (trB (e2 fGt ta tb)) := dt_cmp op_gt o2Gt bf_I ha hb (nomark _)
theorem dt_ge (ha : DE X Γ a ta) (hb : DE X Γ b tb) : DT X Γ (.Compare a [.GtE] [b] pos) (trB (e2 fGe ta tb)) := dt_cmp op_ge o2Ge bf_I ha hb (nomark _)
theorem dt_is (ha : DE X Γ a ta) (hb : DE X Γ b tb) : DT X Γ (.Compare a [.Is] [b] pos) (trB (e2 fIs ta tb)) := dt_cmp op_isN o2Is bf_is ha hb (nomark _)
theorem dt_isnot (ha : DE X Γ a ta) (hb : DE X Γ b tb) : DT X Γ (.Compare a [.IsNot] [b] pos) (trB (e2 fIsNot ta tb)) := dt_cmp op_notN o2IsNot bf_isnot ha hb (nomark _)
theorem dt_eq (hu : X.A.units + 64 < cLine) (ha : DE X Γ a ta) (hb : DE X Γ b tb) (hK : X.K = Γ.c.K := by rfl) : DT X Γ (.Compare a [.Eq] [b] pos) (trB (e2 fEq ta tb)) := dt_cmp (op_eq.or (op_eqD hu)) (o2Eq hK) (bf_map (k := id)) ha hb (nomark _)
theorem dt_ne (hu : X.A.units + 64 < cLine) (ha : DE X Γ a ta) (hb : DE X Γ b tb) (hK : X.K = Γ.c.K := by rfl) : DT X Γ (.Compare a [.NotEq] [b] pos) (trB (e2 fNe ta tb)) := dt_cmp (op_ne.or (op_neD hu)) (o2Ne hK) bf_map ha hb (nomark _)
theorem dt_in (ha : DE X Γ a ta) (hb : DE X Γ b tb) (hm : behindInMarks .In b = false := by rfl) (hK : X.K = Γ.c.K := by rfl) : DT X Γ (.Compare a [.In] [b] pos) (trB (e2 fIn ta tb)) := dt_cmp (op_in_seq.or op_in_str) (o2In hK) (bf_map (k := id)) ha hb hm
theorem dt_notin (ha : DE X Γ a ta) (hb : DE X Γ b tb) (hm : behindInMarks .NotIn b = false := by rfl) (hK : X.K = Γ.c.K := by rfl) : DT X Γ (.Compare a [.NotIn] [b] pos) (trB (e2 fNotIn ta tb)) := dt_cmp (op_notIn_seq.or op_notin_str) (o2NotIn hK) bf_map ha hb hm
variable {pa pb : Td}
theorem dt_not (h : DT X Γ a pa) : DT X Γ (.UnaryOp .Not a pos) (tNt pa) := ⟨PT.wk (pt_not h.p) fun σ H Q ⟨R, ρ, n, r, n', rp, e, q⟩ => by
  obtain ⟨x, m, e1, e⟩ := Mb_some e
  cases e
  exact ⟨R, ρ, n, x, _, rp, e1, q⟩⟩
theorem dw_pt (h : DW X Γ a pa) : DT X Γ a pa := ⟨h.p.pt⟩
theorem dw_and1 (h : DT X Γ a pa) : DW X Γ (.BoolOp .And [a] pos) pa := ⟨pw_and1 h.p⟩
theorem dw_or1 (h : DT X Γ a pa) : DW X Γ (.BoolOp .Or [a] pos) pa := ⟨pw_or1 h.p⟩
theorem dw_and (h : DT X Γ a pa) (k : DW X Γ (.BoolOp .And (b :: rest) pos) pb) : DW X Γ (.BoolOp .And (a :: b :: rest) pos) (tAn pa pb) := ⟨PW.wk (pw_and h.p k.p) fun σ H Q ⟨R, ρ, n, r, n', rp, e, q⟩ => by
  obtain ⟨x, m, e1, e⟩ := Mb_some e
  cases x with
  | true => exact ⟨R, ρ, n, true, m, rp, e1, fun R1 H1 rp1 S1 => iteT ⟨R1, ρ, m, r, n', rp1, e, fun R2 H2 rp2 S2 => q R2 H2 rp2 (S1.trans S2)⟩⟩
  | false => cases e; exact ⟨R, ρ, n, false, _, rp, e1, fun R1 H1 rp1 S1 => iteF (q R1 H1 rp1 S1)⟩⟩
theorem dw_or (h : DT X Γ a pa) (k : DW X Γ (.BoolOp .Or (b :: rest) pos) pb) : DW X Γ (.BoolOp .Or (a :: b :: rest) pos) (tOr' pa pb) := ⟨PW.wk (pw_or h.p k.p) fun σ H Q ⟨R, ρ, n, r, n', rp, e, q⟩ => by
  obtain ⟨x, m, e1, e⟩ := Mb_some e
  cases x with
  | false => exact ⟨R, ρ, n, false, m, rp, e1, fun R1 H1 rp1 S1 => iteF ⟨R1, ρ, m, r, n', rp1, e, fun R2 H2 rp2 S2 => q R2 H2 rp2 (S1.trans S2)⟩⟩
  | true => cases e; exact ⟨R, ρ, n, true, _, rp, e1, fun R1 H1 rp1 S1 => iteT (q R1 H1 rp1 S1)⟩⟩
theorem d_one {op} (h : DE X Γ a ta) : DE X Γ (.BoolOp op [a] pos) ta := ⟨pe_one h.p⟩
theorem d_and (h : DE X Γ a ta) (k : DE X Γ (.BoolOp .And (b :: rest) pos) tb) (hK : X.K = Γ.c.K := by rfl) : DE X Γ (.BoolOp .And (a :: b :: rest) pos) (vAn ta tb) := ⟨PE.wk (pe_andT h.p k.p) fun σ H Q ⟨R, ρ, n, r, n', rp, e, q⟩ => by
  obtain ⟨x, m, e1, e⟩ := Mb_some e
  obtain ⟨c, m2, e2, e⟩ := Mb_some e
  obtain ⟨ee, rfl⟩ := Mo_some e2
  refine ⟨R, ρ, n, x, _, rp, e1, fun v R1 H1 rp1 S1 z1 => ⟨c, hK ▸ z1.tru rp1.hp.same ee, ?_⟩⟩
  cases c with
  | true => exact iteT ⟨R1, ρ, _, r, n', rp1, e, fun u R2 H2 rp2 S2 z2 => q u R2 H2 rp2 (S1.trans S2) z2⟩
  | false => cases e; exact iteF (q v R1 H1 rp1 S1 z1)⟩
theorem d_or (h : DE X Γ a ta) (k : DE X Γ (.BoolOp .Or (b :: rest) pos) tb) (hK : X.K = Γ.c.K := by rfl) : DE X Γ (.BoolOp .Or (a :: b :: rest) pos) (vOr ta tb) := ⟨PE.wk (pe_orT h.p k.p) fun σ H Q ⟨R, ρ, n, r, n', rp, e, q⟩ => by
  obtain ⟨x, m, e1, e⟩ := Mb_some e
  obtain ⟨c, m2, e2, e⟩ := Mb_some e
  obtain ⟨ee, rfl⟩ := Mo_some e2
  refine ⟨R, ρ, n, x, _, rp, e1, fun v R1 H1 rp1 S1 z1 => ⟨c, hK ▸ z1.tru rp1.hp.same ee, ?_⟩⟩
  cases c with
  | false => exact iteF ⟨R1, ρ, _, r, n', rp1, e, fun u R2 H2 rp2 S2 z2 => q u R2 H2 rp2 (S1.trans S2) z2⟩
  | true => cases e; exact iteT (q v R1 H1 rp1 S1 z1)⟩
theorem d_not (h : DE X Γ a ta) (hK : X.K = Γ.c.K := by rfl) : DE X Γ (.UnaryOp .Not a pos) (e1 fNot ta) := ⟨PE.wk (pe_notT h.p) fun σ H Q ⟨R, ρ, n, r, n', rp, e, q⟩ => by
  obtain ⟨x, m, e1, e⟩ := Mb_some e
  obtain ⟨ee, rfl⟩ := Mo_some e
  obtain ⟨c, ec, rfl⟩ := Option.map_eq_some_iff.mp ee
  exact ⟨R, ρ, n, x, _, rp, e1, fun v R1 H1 rp1 S1 z1 => ⟨c, hK ▸ z1.tru rp1.hp.same ec, q _ R1 H1 rp1 S1 (.bl _)⟩⟩⟩
theorem d_if {c : Expr} (hc : DT X Γ c pa) (h : DE X Γ a ta) (k : DE X Γ b tb) : DE X Γ (.IfExp c a b pos) (vIf pa ta tb) := ⟨PE.wk (pe_ifExp hc.p h.p k.p) fun σ H Q ⟨R, ρ, n, r, n', rp, e, q⟩ => by
  obtain ⟨x, m, e1, e⟩ := Mb_some e
  cases x with
  | true => exact ⟨R, ρ, n, true, m, rp, e1, fun R1 H1 rp1 S1 => iteT ⟨R1, ρ, m, r, n', rp1, e, fun u R2 H2 rp2 S2 z2 => q u R2 H2 rp2 (S1.trans S2) z2⟩⟩
  | false => exact ⟨R, ρ, n, false, m, rp, e1, fun R1 H1 rp1 S1 => iteF ⟨R1, ρ, m, r, n', rp1, e, fun u R2 H2 rp2 S2 z2 => q u R2 H2 rp2 (S1.trans S2) z2⟩⟩⟩
/-! a < b < c -/
def vCh (f g : D → D → Option D) (ta tb tc : Ed) : Ed := fun ρ => Mb (ta ρ) fun x => Mb (tb ρ) fun y => Mb (Mo (f x y)) fun z => if fTr z = some true then Mb (tc ρ) fun w => Mo (g y w) else Mp (.bl false)
theorem d_chain {op op' : CmpOp} {r r' : R2} {f g : D → D → Option D} {c : Expr} {tc : Ed} (ho : OpR X (compareOp op) r) (hf : Op2 Γ r f) (bf : Bf f) (ho' : OpR X (compareOp op') r') (hg : Op2 Γ r' g) (ha : DE X Γ a ta) (hb : DE X Γ b tb) (hc : DE X Γ c tc)
    (hm : lastMarks [op, op'] [b, c] = false := by with_unfolding_all rfl) : DE X Γ (.Compare a [op, op'] [b, c] pos) (vCh f g ta tb tc) := ⟨PE.wk (pe_chain ho ho' ha.p hb.p hc.p hm) fun σ H Q ⟨R, ρ, n, r, n', rp, e, q⟩ => by
  obtain ⟨x, m, e1, e⟩ := Mb_some e
  obtain ⟨y, m2, e2, e⟩ := Mb_some e
  obtain ⟨z, m3, e3, e⟩ := Mb_some e
  obtain ⟨ee, rfl⟩ := Mo_some e3
  obtain ⟨k, rfl⟩ := bf _ _ _ ee
  refine ⟨R, ρ, n, x, m, rp, e1, fun v R1 H1 rp1 S1 z1 => ⟨R1, ρ, m, y, _, rp1, e2, fun u R2 H2 rp2 S2 z2 => ?_⟩⟩
  refine hf R2 H2 v u x y _ ee rp2.hp.same (z1.mono S2.le) z2 σ ρ _ _ rp2 fun w R3 H3 rp3 S3 z3 => ⟨k, z3.bl_inv, ?_⟩
  cases k with
  | true =>
    obtain ⟨w', m4, e4, e⟩ := Mb_some e
    obtain ⟨e5, rfl⟩ := Mo_some e
    refine iteT ⟨R3, ρ, _, w', _, rp3, e4, fun u4 R4 H4 rp4 S4 z4 => ?_⟩
    exact hg R4 H4 u u4 y w' r e5 rp4.hp.same ((z2.mono S3.le).mono S4.le) z4 σ ρ _ _ rp4 fun w5 R5 H5 rp5 S5 z5 => q w5 R5 H5 rp5 ((((S1.trans S2).trans S3).trans S4).trans S5) z5
  | false => cases e; exact iteF (q _ R3 H3 rp3 ((S1.trans S2).trans S3) (.bl _))⟩
theorem dt_chain {op op' : CmpOp} {r r' : R2} {f g : D → D → Option D} {c : Expr} {tc : Ed} (ho : OpR X (compareOp op) r) (hf : Op2 Γ r f) (bf : Bf f) (ho' : OpR X (compareOp op') r') (hg : Op2 Γ r' g) (bg : Bf g) (ha : DE X Γ a ta) (hb : DE X Γ b tb) (hc : DE X Γ c tc)
    (hm : lastMarks [op, op'] [b, c] = false := by with_unfolding_all rfl) : DT X Γ (.Compare a [op, op'] [b, c] pos) (trB (vCh f g ta tb tc)) := ⟨PT.wk (pt_chain ho ho' ha.p hb.p hc.p hm) fun σ H Q ⟨R, ρ, n, r, n', rp, e, q⟩ => by
  obtain ⟨d, m0, e0, e⟩ := Mb_some e
  obtain ⟨er, rfl⟩ := Mo_some e
  obtain ⟨x, m, e1, e⟩ := Mb_some e0
  obtain ⟨y, m2, e2, e⟩ := Mb_some e
  obtain ⟨z, m3, e3, e⟩ := Mb_some e
  obtain ⟨ee, rfl⟩ := Mo_some e3
  obtain ⟨k, rfl⟩ := bf _ _ _ ee
  refine ⟨R, ρ, n, x, m, rp, e1, fun v R1 H1 rp1 S1 z1 => ⟨R1, ρ, m, y, _, rp1, e2, fun u R2 H2 rp2 S2 z2 => ?_⟩⟩
  refine hf R2 H2 v u x y _ ee rp2.hp.same (z1.mono S2.le) z2 σ ρ _ _ rp2 fun w R3 H3 rp3 S3 z3 => ⟨k, z3.bl_inv, ?_⟩
  cases k with
  | true =>
    obtain ⟨w', m4, e4, e⟩ := Mb_some e
    obtain ⟨e5, rfl⟩ := Mo_some e
    obtain ⟨k2, rfl⟩ := bg _ _ _ e5
    cases er
    refine iteT ⟨R3, ρ, _, w', _, rp3, e4, fun u4 R4 H4 rp4 S4 z4 => ?_⟩
    exact hg R4 H4 u u4 y w' _ e5 rp4.hp.same ((z2.mono S3.le).mono S4.le) z4 σ ρ _ _ rp4 fun w5 R5 H5 rp5 S5 z5 => ⟨_, z5.bl_inv, q R5 H5 rp5 ((((S1.trans S2).trans S3).trans S4).trans S5)⟩
  | false => cases e; cases er; exact iteF ⟨false, rfl, q R3 H3 rp3 ((S1.trans S2).trans S3)⟩⟩
end
/-! displays -/
section
variable {X : Cx} {Γ : Gm} {es : List Expr} {t : Ad} {pos : Pos}
def eTup (t : Ad) : Ed := fun ρ => Mb (t ρ) fun ds => Mp (.tup ds)
def eLst (t : Ad) : Ed := fun ρ => Mb (t ρ) fun ds => Mp (.lst ds)
def eTupS (t : Ad) : Ed := fun ρ => Mb (t ρ) fun ds => Mo (szl ds.length (.tup ds))
theorem d_tup {k : Nat} {x1} (h : DA X Γ es t) (hl : ∀ ρ n r n', t ρ n = some (r, n') → r.length = k) (hk : k ≤ sizeLine := by decide) : DE X Γ (.Tuple es x1 pos) (eTup t) := ⟨PE.wk (pe_tup h.p) fun σ H Q ⟨R, ρ, n, r, n', rp, e, q⟩ => by
  obtain ⟨ds, m, e1, e⟩ := Mb_some e
  cases e
  refine ⟨R, ρ, n, ds, _, rp, e1, fun vs R1 H1 rp1 S1 z1 => ?_⟩
  have hz : vs.length ≤ sizeLine := by rw [z1.len, hl _ _ _ _ e1]; exact hk
  exact ⟨hz, fun p hp => q _ _ _ (rp1.lay hp) (S1.trans (rp1.go hp)) (.tup (SqT.of upd_same) hz (z1.mono (rp1.go hp).le))⟩⟩
theorem d_tupS {x1} (h : DA X Γ es t) : DE X Γ (.Tuple es x1 pos) (eTupS t) := ⟨PE.wk (pe_tup h.p) fun σ H Q ⟨R, ρ, n, r, n', rp, e, q⟩ => by
  obtain ⟨ds, m, e1, e⟩ := Mb_some e
  obtain ⟨ee, rfl⟩ := Mo_some e
  obtain ⟨hz, rfl⟩ := szl_some ee
  refine ⟨R, ρ, n, ds, _, rp, e1, fun vs R1 H1 rp1 S1 z1 => ?_⟩
  rw [← z1.len] at hz
  exact ⟨hz, fun p hp => q _ _ _ (rp1.lay hp) (S1.trans (rp1.go hp)) (.tup (SqT.of upd_same) hz (z1.mono (rp1.go hp).le))⟩⟩
theorem d_lst {k : Nat} (h : DA X Γ es t) (hl : ∀ ρ n r n', t ρ n = some (r, n') → r.length = k) (hk : k ≤ sizeLine := by decide) : DE X Γ (.List es pos) (eLst t) := ⟨PE.wk (pe_lst h.p) fun σ H Q ⟨R, ρ, n, r, n', rp, e, q⟩ => by
  obtain ⟨ds, m, e1, e⟩ := Mb_some e
  cases e
  refine ⟨R, ρ, n, ds, _, rp, e1, fun vs R1 H1 rp1 S1 z1 => ?_⟩
  have hz : vs.length ≤ sizeLine := by rw [z1.len, hl _ _ _ _ e1]; exact hk
  exact ⟨hz, fun p hp => q _ _ _ (rp1.lay hp) (S1.trans (rp1.go hp)) (.lst upd_same hz (z1.mono (rp1.go hp).le))⟩⟩
/-- *e, .. -/
def aStar (t : Ed) (u : Ad) : Ad := fun ρ => Mb (t ρ) fun x => Mb (u ρ) fun ys => match x with
  | .tup xs => Mp (xs ++ ys)
  | .lst xs => Mp (xs ++ ys)
  | _ => Mo none
theorem da_star {e : Expr} {p : Pos} {t : Ed} {u : Ad} (he : DE X Γ e t) (hr : DA X Γ es u) (hs : starEach (.Starred e p :: es) X.env = (true, eval e X.env) :: starEach es X.env := by rfl) (hK : X.K = Γ.c.K := by rfl) : DA X Γ (.Starred e p :: es) (aStar t u) :=
  ⟨PA.wk (StX.pa_star he.p hr.p hs) fun σ H Q ⟨R, ρ, n, r, n', rp, e, q⟩ => by
    obtain ⟨x, m, e1, e⟩ := Mb_some e
    obtain ⟨ys, m2, e2, e⟩ := Mb_some e
    refine ⟨R, ρ, n, x, m, rp, e1, fun v R1 H1 rp1 S1 z1 => ?_⟩
    cases z1 with
    | tup h l f =>
      cases e
      exact ⟨_, _, rfl, .inl (hK ▸ rp1.hp.same.sqT h), R1, ρ, m, ys, _, rp1, e2, fun vs R2 H2 rp2 S2 z2 => q _ R2 H2 rp2 (S1.trans S2) ((f.mono S2.le).app z2)⟩
    | lst h l f =>
      cases e
      exact ⟨_, _, rfl, .inr (SqL.of (rp1.hp.same.l h)), R1, ρ, m, ys, _, rp1, e2, fun vs R2 H2 rp2 S2 z2 => q _ R2 H2 rp2 (S1.trans S2) ((f.mono S2.le).app z2)⟩
    | _ => cases e⟩
end
/-! subscripts -/
section
variable {X : Cx} {Γ : Gm} {a b : Expr} {ta tb : Ed} {pos : Pos}
theorem FzA.atI {c : Cn} {R : Hp} {vs : List V} {ds : List D} {i : Int} {d : D} (h : FzA c R vs ds) (e : L2.atI ds i = some d) : ∃ v, L2.atI vs i = some v ∧ Fz c R v d := by
  unfold L2.atI at e ⊢
  rw [← h.len] at e
  cases q : ixN vs.length i with
  | none => rw [q] at e; cases e
  | some j =>
    rw [q] at e
    exact h.get (i := j) e
def fIx : D → D → Option D
  | .tup ds, .int i => L2.atI ds i
  | .lst ds, .int i => L2.atI ds i
  | .str z, .int i => (L2.atI z.cps.toList i).map fun c => .str ⟨#[c]⟩
  | _, _ => none
theorem one_len (c : Nat) : (⟨#[c]⟩ : Str).length ≤ sizeLine := by show 1 ≤ sizeLine; decide
theorem o2Ix (hK : X.K = Γ.c.K) : Op2 Γ (rIx X.K) fIx := fun R H x y dx dy d e S z1 z2 => by
  cases z1 with
  | tup h l f => cases z2 with
    | int i => obtain ⟨v, h1, h2⟩ := f.atI e; exact gives_c h2 fun Q q => .inr (.inl ⟨_, _, _, _, rfl, rfl, hK ▸ S.sqT h, h1, q⟩)
    | _ => cases e
  | lst h l f => cases z2 with
    | int i => obtain ⟨v, h1, h2⟩ := f.atI e; exact gives_c h2 fun Q q => .inl ⟨_, _, _, _, rfl, rfl, SqL.of (S.l h), h1, q⟩
    | _ => cases e
  | str z hz => cases z2 with
    | int i =>
      obtain ⟨c, ec, rfl⟩ := Option.map_eq_some_iff.mp e
      exact gives_c (.str _ (one_len c)) fun Q q => .inr (.inr ⟨z, i, c, rfl, rfl, hz, ec, q⟩)
    | _ => cases e
  | _ => cases e
theorem d_ix (ha : DE X Γ a ta) (hb : DE X Γ b tb) (hs : PlainIx b := by exact fun _ _ => rfl) (hK : X.K = Γ.c.K := by rfl) : DE X Γ (.Subscript a b pos) (e2 fIx ta tb) :=
  ⟨PE.wk (pe_ix ix_seq ha.p hb.p hs) fun σ H Q ⟨R, ρ, n, r, n', rp, e, q⟩ => by
    obtain ⟨x, m, e1, e⟩ := Mb_some e
    obtain ⟨y, m2, e2, e⟩ := Mb_some e
    obtain ⟨ee, rfl⟩ := Mo_some e
    refine ⟨R, ρ, n, x, m, rp, e1, fun v R1 H1 rp1 S1 z1 => ⟨R1, ρ, m, y, _, rp1, e2, fun u R2 H2 rp2 S2 z2 => ?_⟩⟩
    exact o2Ix hK R2 H2 v u x y r ee rp2.hp.same (z1.mono S2.le) z2 σ ρ _ Q rp2 fun w R3 H3 rp3 S3 z3 => q w R3 H3 rp3 ((S1.trans S2).trans S3) z3⟩
/-! slices -/
abbrev Pd := Sd → M (Option Int)
structure DP (X : Cx) (Γ : Gm) (e : Option Expr) (t : Pd) : Prop where
  p : PO X e fun σ H Q => ∃ R ρ n r n', Rp Γ R H σ ρ n ∧ t ρ n = some (r, n') ∧ ∀ R' H', Rp Γ R' H' σ ρ n' → Go Γ R H R' H' → Q r H'
theorem dp_none : DP X Γ none (fun _ => Mp none) := ⟨⟨fun pins s σ H Q I ⟨R, ρ, n, r, n', rp, e, q⟩ => by
  cases e
  exact po_none.run pins s σ H Q I (q R H rp (Go.refl _ _ _))⟩⟩
def pSome (t : Ed) : Pd := fun ρ => Mb (t ρ) fun d => match d with
  | .int i => Mp (some i)
  | _ => Mo none
theorem dp_some (ha : DE X Γ a ta) : DP X Γ (some a) (pSome ta) := ⟨⟨fun pins s σ H Q I ⟨R, ρ, n, r, n', rp, e, q⟩ => by
  obtain ⟨x, m, e1, e⟩ := Mb_some e
  refine (po_some ha.p).run pins s σ H Q I ⟨R, ρ, n, x, m, rp, e1, fun v R1 H1 rp1 S1 z1 => ?_⟩
  cases z1 with
  | int i => cases e; exact ⟨i, rfl, q R1 H1 rp1 S1⟩
  | _ => cases e⟩⟩
def cutD (xs : List D) (lo hi : Option Int) : List D := (xs.drop (HT.sIx xs.length 0 lo)).take (HT.sIx xs.length xs.length hi - HT.sIx xs.length 0 lo)
theorem FzA.cut {c : Cn} {R : Hp} {vs : List V} {ds : List D} (h : FzA c R vs ds) (lo hi : Option Int) : FzA c R (cutV vs lo hi) (cutD ds lo hi) := by
  unfold cutV cutD
  rw [h.len]
  exact (h.drop _).take _
def fSl : D → Option Int → Option Int → Option D
  | .tup ds, lo, hi => some (.tup (cutD ds lo hi))
  | .lst ds, lo, hi => some (.lst (cutD ds lo hi))
  | .str z, lo, hi => some (.str (cutS z lo hi))
  | _, _, _ => none
def eSl (t : Ed) (l h : Pd) : Ed := fun ρ => Mb (t ρ) fun x => Mb (l ρ) fun lo => Mb (h ρ) fun hi => Mo (fSl x lo hi)
theorem d_sl {lo hi : Option Expr} {tl th : Pd} {p2 : Pos} (ha : DE X Γ a ta) (hl : DP X Γ lo tl) (hh : DP X Γ hi th) (hK : X.K = Γ.c.K := by rfl) : DE X Γ (.Subscript a (.Slice lo hi none p2) pos) (eSl ta tl th) :=
  ⟨PE.wk (pe_slice (sl_list.or (sl_tupA.or sl_str)) ha.p hl.p hh.p) fun σ H Q ⟨R, ρ, n, r, n', rp, e, q⟩ => by
    obtain ⟨x, m, e1, e⟩ := Mb_some e
    obtain ⟨l, m2, e2, e⟩ := Mb_some e
    obtain ⟨h, m3, e3, e⟩ := Mb_some e
    obtain ⟨ee, rfl⟩ := Mo_some e
    refine ⟨R, ρ, n, x, m, rp, e1, fun v R1 H1 rp1 S1 z1 => ⟨R1, ρ, m, l, _, rp1, e2, fun R2 H2 rp2 S2 => ⟨R2, ρ, _, h, _, rp2, e3, fun R3 H3 rp3 S3 => ?_⟩⟩⟩
    have z3 := (z1.mono S2.le).mono S3.le
    have S123 := (S1.trans S2).trans S3
    cases z3 with
    | lst hh lh f =>
      cases ee
      refine .inl ⟨_, _, rfl, SqL.of (rp3.hp.same.l hh), fun p hp => q _ _ _ (rp3.lay hp) (S123.trans (rp3.go hp)) (.lst upd_same ?_ ((f.cut l h).mono (rp3.go hp).le))⟩
      exact Nat.le_trans (cutV_length _ _ _) lh
    | tup hh lh f =>
      cases ee
      refine .inr (.inl ⟨_, _, rfl, hK ▸ rp3.hp.same.sqT hh, fun hw => ?_, fun _ p hp => ?_⟩)
      · refine q _ R3 H3 rp3 S123 (.tup hh lh ?_)
        have e0 := f.cut l h
        have : cutV _ l h = _ := show cutV _ l h = _ from by unfold cutV; rw [hw.1, hw.2, List.drop_zero, Nat.sub_zero, List.take_length]
        rw [this] at e0
        exact e0
      · exact q _ _ _ (rp3.lay hp) (S123.trans (rp3.go hp)) (.tup (SqT.of upd_same) (Nat.le_trans (cutV_length _ _ _) lh) ((f.cut l h).mono (rp3.go hp).le))
    | str z hz =>
      cases ee
      exact .inr (.inr ⟨z, rfl, hz, q _ R3 H3 rp3 S123 (.str _ (Nat.le_trans (cutS_length z _ _) hz))⟩)
    | _ => cases ee⟩
def fRev : D → Option D
  | .lst ds => some (.lst ds.reverse)
  | _ => none
theorem d_rev {k : Nat} {p1 p2 p3 : Pos} (ha : DE X Γ a ta) (hK : X.K = Γ.c.K := by rfl) : DE X Γ (.Subscript a (.Slice none none (some (.UnaryOp .USub (.Constant (.int 1) k p1) p2)) p3) pos) (e1 fRev ta) :=
  ⟨PE.wk (pe_revL ha.p) fun σ H Q ⟨R, ρ, n, r, n', rp, e, q⟩ => by
    obtain ⟨x, m, e1, e⟩ := Mb_some e
    obtain ⟨ee, rfl⟩ := Mo_some e
    refine ⟨R, ρ, n, x, _, rp, e1, fun v R1 H1 rp1 S1 z1 => ?_⟩
    cases z1 with
    | lst hh lh f =>
      cases ee
      exact ⟨_, _, rfl, SqL.of (rp1.hp.same.l hh), fun p hp => q _ _ _ (rp1.lay hp) (S1.trans (rp1.go hp)) (.lst upd_same (by rw [List.length_reverse]; exact lh) (f.rev.mono (rp1.go hp).le))⟩
    | _ => cases ee⟩
end
end Sh

set_option Elab.async false
set_option linter.all false
set_option maxRecDepth 100000
namespace Nf
open PySem L2
/-! ### sayings -/
inductive Say where
  | name (x : Str) | skip | app (c : Bool) (w : Str) (ps : List Say) | two (c : Bool) (a b : Say)
def hApp (c : Bool) : Str := if c then "call" else "made"
def hTwo (c : Bool) : Str := if c then "same" else "either"
mutual
def Say.da : Say → Da
  | .name x => .tup [.str "name", .str x]
  | .skip => .tup [.str "skip"]
  | .app c w ps => .tup [.str (hApp c), .str w, .tup (Say.das ps)]
  | .two c a b => .tup [.str (hTwo c), Say.da a, Say.da b]
def Say.das : List Say → List Da
  | [] => []
  | s :: r => Say.da s :: Say.das r
end
theorem Say.das_map : ∀ ps : List Say, Say.das ps = ps.map Say.da
  | [] => rfl
  | s :: r => by simp only [Say.das, List.map_cons, Say.das_map r]
def Say.head : Say → Str
  | .name _ => "name"
  | .skip => "skip"
  | .app c _ _ => hApp c
  | .two c _ _ => hTwo c
section
variable {H : Hp} {v : V}
theorem is_name {x : Str} (h : Is H v (Say.name x).da) : ∃ a, v = .ref a ∧ H a = some (.tup [.str "name", .str x]) := by
  simp only [Say.da] at h
  cases h with
  | @tup a xs _ h1 h2 =>
    cases h2 with
    | cons p q =>
      cases q with
      | cons p2 q2 =>
        cases q2; cases p; cases p2
        exact ⟨a, rfl, h1⟩
theorem is_skip (h : Is H v Say.skip.da) : ∃ a, v = .ref a ∧ H a = some (.tup [.str "skip"]) := by
  simp only [Say.da] at h
  cases h with
  | @tup a xs _ h1 h2 =>
    cases h2 with
    | cons p q =>
      cases q; cases p
      exact ⟨a, rfl, h1⟩
theorem is_app {c : Bool} {w : Str} {ps : List Say} (h : Is H v (Say.app c w ps).da) : ∃ a b xs, v = .ref a ∧ H a = some (.tup [.str (hApp c), .str w, .ref b]) ∧ H b = some (.tup xs) ∧ IsA H xs (ps.map Say.da) := by
  simp only [Say.da, Say.das_map] at h
  cases h with
  | @tup a xs _ h1 h2 =>
    cases h2 with
    | cons p q =>
      cases q with
      | cons p2 q2 =>
        cases q2 with
        | cons p3 q3 =>
          cases q3; cases p; cases p2
          cases p3 with
          | @tup b ys _ h3 h4 => exact ⟨a, b, ys, rfl, h1, h3, h4⟩
theorem is_two {c : Bool} {s t : Say} (h : Is H v (Say.two c s t).da) : ∃ a x y, v = .ref a ∧ H a = some (.tup [.str (hTwo c), x, y]) ∧ Is H x s.da ∧ Is H y t.da := by
  simp only [Say.da] at h
  cases h with
  | @tup a xs _ h1 h2 =>
    cases h2 with
    | cons p q =>
      cases q with
      | cons p2 q2 =>
        cases q2 with
        | cons p3 q3 =>
          cases q3; cases p
          exact ⟨a, _, _, rfl, h1, p2, p3⟩
theorem mk_name {a : Addr} {x : Str} (h : H a = some (.tup [.str "name", .str x])) : Is H (.ref a) (Say.name x).da := by
  simp only [Say.da]
  exact .tup h (.cons (.str _) (.cons (.str _) .nil))
theorem mk_skip {a : Addr} (h : H a = some (.tup [.str "skip"])) : Is H (.ref a) Say.skip.da := by
  simp only [Say.da]
  exact .tup h (.cons (.str _) .nil)
theorem mk_app {a b : Addr} {c : Bool} {w : Str} {xs : List V} {ps : List Say} (h : H a = some (.tup [.str (hApp c), .str w, .ref b])) (h2 : H b = some (.tup xs)) (h3 : IsA H xs (ps.map Say.da)) : Is H (.ref a) (Say.app c w ps).da := by
  simp only [Say.da, Say.das_map]
  exact .tup h (.cons (.str _) (.cons (.str _) (.cons (.tup h2 h3) .nil)))
theorem mk_two {a : Addr} {x y : V} {c : Bool} {s t : Say} (h : H a = some (.tup [.str (hTwo c), x, y])) (h2 : Is H x s.da) (h3 : Is H y t.da) : Is H (.ref a) (Say.two c s t).da := by
  simp only [Say.da]
  exact .tup h (.cons (.str _) (.cons h2 (.cons h3 .nil)))
/-- the head of a saying stands first -/
theorem is_head {s : Say} (h : Is H v s.da) : ∃ a r, v = .ref a ∧ H a = some (.tup (.str s.head :: r)) := by
  cases s with
  | name x => obtain ⟨a, rfl, h'⟩ := is_name h; exact ⟨a, _, rfl, h'⟩
  | skip => obtain ⟨a, rfl, h'⟩ := is_skip h; exact ⟨a, _, rfl, h'⟩
  | app c w ps => obtain ⟨a, b, xs, rfl, h, _⟩ := is_app h; exact ⟨a, _, rfl, h⟩
  | two c s t => obtain ⟨a, x, y, rfl, h, _⟩ := is_two h; exact ⟨a, _, rfl, h⟩
end
/-- within a depth, with heads among some, at most three parts -/
def Say.ok (f : Str → Prop) : Nat → Say → Prop
  | 0, _ => False
  | _ + 1, .name _ => f "name"
  | _ + 1, .skip => f "skip"
  | n + 1, .app c _ ps => f (hApp c) ∧ ps.length ≤ 3 ∧ ∀ p ∈ ps, Say.ok f n p
  | n + 1, .two c a b => f (hTwo c) ∧ Say.ok f n a ∧ Say.ok f n b
theorem Say.ok_mono {f : Str → Prop} : ∀ {n m : Nat} {s : Say}, n ≤ m → Say.ok f n s → Say.ok f m s
  | 0, _, _, _, h => h.elim
  | _ + 1, 0, _, h, _ => absurd h (by omega)
  | n + 1, m + 1, .name _, _, h => h
  | n + 1, m + 1, .skip, _, h => h
  | n + 1, m + 1, .app c w ps, hm, h => ⟨h.1, h.2.1, fun p hp => Say.ok_mono (by omega) (h.2.2 p hp)⟩
  | n + 1, m + 1, .two c a b, hm, h => ⟨h.1, Say.ok_mono (by omega) h.2.1, Say.ok_mono (by omega) h.2.2⟩
theorem Say.ok_imp {f g : Str → Prop} (k : ∀ x, f x → g x) : ∀ {n : Nat} {s : Say}, Say.ok f n s → Say.ok g n s
  | 0, _, h => h.elim
  | n + 1, .name _, h => k _ h
  | n + 1, .skip, h => k _ h
  | n + 1, .app c w ps, h => ⟨k _ h.1, h.2.1, fun p hp => Say.ok_imp k (h.2.2 p hp)⟩
  | n + 1, .two c a b, h => ⟨k _ h.1, Say.ok_imp k h.2.1, Say.ok_imp k h.2.2⟩
theorem Say.dep {f : Str → Prop} : ∀ {n : Nat} {s : Say}, Say.ok f n s → Da.dep (2 * n + 2) s.da
  | 0, _, h => h.elim
  | n + 1, .name _, _ => by
    simp only [Say.da]
    refine ⟨by simp, fun d hd => ?_⟩
    simp at hd
    rcases hd with rfl | rfl <;> exact True.intro
  | n + 1, .skip, _ => by
    simp only [Say.da]
    refine ⟨by simp, fun d hd => ?_⟩
    simp at hd
    subst hd
    exact True.intro
  | n + 1, .app c w ps, h => by
    simp only [Say.da, Say.das_map]
    refine ⟨by simp, fun d hd => ?_⟩
    simp at hd
    rcases hd with rfl | rfl | rfl
    · exact True.intro
    · exact True.intro
    · refine ⟨by rw [List.length_map]; have := h.2.1; omega, fun d hd => ?_⟩
      obtain ⟨p, hp, rfl⟩ := List.mem_map.mp hd
      have := Say.dep (h.2.2 p hp)
      exact this
  | n + 1, .two c a b, h => by
    simp only [Say.da]
    have k : ∀ {j : Nat} {d : Da}, Da.dep j d → Da.dep (j + 1) d := by
      intro j
      induction j with
      | zero => intro d h; exact h.elim
      | succ j ih =>
        intro d h
        cases d with
        | tup ds => exact ⟨h.1, fun d hd => ih (h.2 d hd)⟩
        | _ => exact True.intro
    refine ⟨by simp, fun d hd => ?_⟩
    simp at hd
    rcases hd with rfl | rfl | rfl
    · exact True.intro
    · exact k (Say.dep h.2.1)
    · exact k (Say.dep h.2.2)
theorem Da.dep_mono : ∀ {n m : Nat} {d : Da}, n ≤ m → Da.dep n d → Da.dep m d
  | 0, _, _, _, h => h.elim
  | _ + 1, 0, _, h, _ => absurd h (by omega)
  | n + 1, m + 1, .tup ds, hm, h => ⟨h.1, fun d hd => Da.dep_mono (by omega) (h.2 d hd)⟩
  | n + 1, m + 1, .non, _, _ => True.intro
  | n + 1, m + 1, .bl _, _, _ => True.intro
  | n + 1, m + 1, .int _, _, _ => True.intro
  | n + 1, m + 1, .str _, _, _ => True.intro
/-- the six heads -/
def heads6 : List Str := ["name", "made", "call", "either", "same", "skip"]
theorem str_len (x y : Str) : (x ++ y).length = x.length + y.length := by
  show (x.cps ++ y.cps).size = x.cps.size + y.cps.size
  rw [Array.size_append]
/-- what a draw may cost -/
def cost (m : Nat) : Nat := 20 * 4 ^ m
theorem cost_pos (m : Nat) : 20 ≤ cost m := by
  unfold cost
  have : 0 < 4 ^ m := Nat.pow_pos (by decide)
  omega
theorem cost_succ (m : Nat) : cost (m + 1) = 4 * cost m := by
  unfold cost
  rw [Nat.pow_succ]
  omega
theorem atC {xs : List Nat} {i : Int} (h0 : 0 ≤ i) (h1 : i < xs.length) : ∃ v, atI xs i = some v := by
  have hk : i.toNat < xs.length := by omega
  refine ⟨xs[i.toNat], ?_⟩
  unfold atI ixN
  rw [if_pos h0, if_pos h1]
  exact List.getElem?_eq_getElem hk
theorem ifT {c A B : Prop} [Decidable c] (hc : c) (h : A) : if decide c = true then A else B := by rw [decide_eq_true hc]; exact iteT h
theorem ifF {c A B : Prop} [Decidable c] (hc : ¬ c) (h : B) : if decide c = true then A else B := by rw [decide_eq_false hc]; exact iteF h
theorem ifBT {b : Bool} {A B : Prop} (hb : b = true) (h : A) : if b = true then A else B := by rw [if_pos hb]; exact h
theorem ifBF {b : Bool} {A B : Prop} (hb : b = false) (h : B) : if b = true then A else B := by rw [hb]; exact iteF h
theorem g_name {i : Nat} {v : V} {σ : L2.St} {H : Hp} {Q : L2.St → Hp → Prop} (h : Q (σ.set i (some v)) H) : gName i v σ H Q := h
theorem seq_cut {t1 t2 : TS} {D : Ends} {σ : L2.St} {H : Hp} (M : L2.St → Hp → Prop) (h2 : ∀ σ' H', M σ' H' → t2 D σ' H') (h1 : (∀ σ' H', M σ' H' → t2 D σ' H') → t1 { D with nx := t2 D } σ H) : tSeq t1 t2 D σ H := h1 h2
theorem flat_strs : ∀ ws : List Str, (ws.map V.str).all flatV = true
  | [] => rfl
  | x :: r => by rw [List.map_cons, List.all_cons, flat_strs r]; rfl
theorem inV_strs {x : Str} : ∀ {ws : List Str}, inV (.str x) (ws.map V.str) = true ↔ x ∈ ws
  | [] => by simp [inV]
  | y :: r => by
    have h := inV_strs (x := x) (ws := r)
    unfold inV at h ⊢
    rw [List.map_cons, List.any_cons, Bool.or_eq_true, h, List.mem_cons]
    show (y == x) = true ∨ _ ↔ _
    rw [beq_iff_eq]
    exact ⟨fun z => z.imp Eq.symm id, fun z => z.imp Eq.symm id⟩
theorem heads6_cases {x : Str} (h : x ∈ heads6) : x = "skip" ∨ x = "name" ∨ (∃ c, x = hTwo c) ∨ ∃ c, x = hApp c := by
  unfold heads6 at h
  simp only [List.mem_cons, List.not_mem_nil, or_false] at h
  rcases h with h | h | h | h | h | h
  · exact .inr (.inl h)
  · exact .inr (.inr (.inr ⟨false, h⟩))
  · exact .inr (.inr (.inr ⟨true, h⟩))
  · exact .inr (.inr (.inl ⟨false, h⟩))
  · exact .inr (.inr (.inl ⟨true, h⟩))
  · exact .inl h
theorem Keep.at {D : List Addr} {H H' : Hp} {a : Addr} {o : HO} (k : Keep D H H') (h : H a = some o) (n : a ∉ D) : H' a = some o := k a o h n
theorem Keep.is {D : List Addr} {H H' : Hp} {v : V} {d : Da} (k : Keep D H H') (n : NoTup D H) (h : Is H v d) : Is H' v d := h.mono (k.tups n)
theorem IsA.map_get {α : Type} {H : Hp} {f : α → Da} {vs : List V} {xs : List α} {i : Nat} {v : V} (h : IsA H vs (xs.map f)) (e : vs[i]? = some v) : ∃ x, xs[i]? = some x ∧ Is H v (f x) := by
  obtain ⟨d, h1, h2⟩ := h.getV e
  rw [List.getElem?_map] at h1
  obtain ⟨x, hx, rfl⟩ := Option.map_eq_some_iff.mp h1
  exact ⟨x, hx, h2⟩
end Nf

set_option Elab.async false
set_option linter.all false
set_option maxRecDepth 100000
namespace Nf
open PySem L2
theorem cut_whole {xs : List V} {lo hi : Option Int} (h : HT.sIx xs.length 0 lo = 0 ∧ HT.sIx xs.length xs.length hi = xs.length) : cutV xs lo hi = xs := by
  show (xs.drop (HT.sIx xs.length 0 lo)).take (HT.sIx xs.length xs.length hi - HT.sIx xs.length 0 lo) = xs
  rw [h.1, h.2, List.drop_zero, Nat.sub_zero, List.take_length]
theorem sl_any {K : PySem.W.Frag} {H : Hp} {a : Addr} {xs : List V} {lo hi : Option Int} {Q : VK} (h : H a = some (.tup xs)) (q : ∀ p H', Same H H' → H' p = some (.tup (cutV xs lo hi)) → Q (.ref p) H') : rSlA K (.ref a) lo hi H Q := by
  refine ⟨a, xs, rfl, SqT.of h, fun hw => q a H (Same.refl H) (by rw [cut_whole hw]; exact h), fun _ p hp => q p _ (same_new hp _) upd_same⟩
theorem cat_any {K : PySem.W.Frag} {H : Hp} {a b : Addr} {xs ys : List V} {Q : VK} (h : H a = some (.tup xs)) (h2 : H b = some (.tup ys)) (hz : xs.length + ys.length ≤ 100000) (q : ∀ p H', Same H H' → H' p = some (.tup (xs ++ ys)) → Q (.ref p) H') : rCatA K (.ref a) (.ref b) H Q := by
  refine ⟨a, b, xs, ys, rfl, rfl, SqT.of h, SqT.of h2, sz5 hz, fun e => ?_, fun _ e => ?_, fun _ _ p hp => q p _ (same_new hp _) upd_same⟩
  · subst e; exact q b H (Same.refl H) (by simpa using h2)
  · subst e; exact q a H (Same.refl H) (by simpa using h)
theorem cut_from1 {x : V} {xs : List V} : cutV (x :: xs) (some 1) none = xs := by
  show ((x :: xs).drop (HT.sIx (x :: xs).length 0 (some ((1 : Nat) : Int)))).take ((x :: xs).length - HT.sIx (x :: xs).length 0 (some ((1 : Nat) : Int))) = xs
  rw [HT.sIx_nat]
  have e : min 1 (x :: xs).length = 1 := by rw [List.length_cons]; omega
  rw [e, List.drop_succ_cons, List.drop_zero, List.length_cons, Nat.add_sub_cancel, List.take_length]
theorem cut_to1 {x : V} {xs : List V} : cutV (x :: xs) none (some 1) = [x] := by
  show ((x :: xs).drop 0).take (HT.sIx (x :: xs).length (x :: xs).length (some ((1 : Nat) : Int)) - 0) = [x]
  rw [HT.sIx_nat]
  have e : min 1 (x :: xs).length = 1 := by rw [List.length_cons]; omega
  rw [e]
  rfl
def Say.isApp : Say → Bool
  | .app _ _ _ => true
  | _ => false
def Say.isTwo : Say → Bool
  | .two _ _ _ => true
  | _ => false
theorem in_mc (s : Say) : inV (.str s.head) [.str "made", .str "call"] = s.isApp := by
  cases s with
  | app c _ _ => show inV (.str (hApp c)) _ = true; revert c; decide
  | two c _ _ => show inV (.str (hTwo c)) _ = false; revert c; decide
  | name x => show inV (.str "name") _ = false; decide
  | skip => show inV (.str "skip") _ = false; decide
theorem in_es (s : Say) : inV (.str s.head) [.str "either", .str "same"] = s.isTwo := by
  cases s with
  | app c _ _ => show inV (.str (hApp c)) _ = false; revert c; decide
  | two c _ _ => show inV (.str (hTwo c)) _ = true; revert c; decide
  | name x => show inV (.str "name") _ = false; decide
  | skip => show inV (.str "skip") _ = false; decide
theorem head_app {c : Bool} {w : Str} {ps : List Say} : (Say.app c w ps).head ≠ "name" := by
  show hApp c ≠ "name"; revert c; decide
theorem head_two {c : Bool} {a b : Say} : (Say.two c a b).head ≠ "name" := by
  show hTwo c ≠ "name"; revert c; decide
theorem head_skip : Say.skip.head ≠ "name" := by
  show ¬ (("skip" : Str) = "name"); decide
theorem at0 {x : V} {r : List V} : atI (x :: r) 0 = some x := at_of (j := 0) rfl rfl
/-- a list made of a tuple's (or list's) items, one by one, each by a call that leaves all as it was -/
theorem lc_map {α : Type} {J : It} {G : Hp → Prop} {xs : List V} (W : Walk J xs.length G (YAt xs)) {f g : α → Da} {ps : List α} {H1 : Hp} {Z : Addr} {i0 : Nat} {te : TE} {vs : List Nat} {σ : L2.St} {Qd : Hp → Prop}
    (hxs : IsA H1 xs (ps.map f)) (hG : ∀ H, Same H1 H → G H) (hlen : ps.length ≤ 90000) (hZ : H1 Z = none)
    (hw : ∀ x : V, wipe ((wipe σ vs).set i0 (some x)) vs = wipe σ vs)
    (turn : ∀ (i : Nat) (x : V) (p : α) (H2 : Hp) (Q : VK), ps[i]? = some p → Same H1 H2 → Is H2 x (f p) → (∀ y H4, Same H2 H4 → Is H4 y (g p) → Q y H4) → te ((wipe σ vs).set i0 (some x)) H2 Q)
    (done : ∀ (H2 : Hp) (us : List V), Same H1 H2 → H2 Z = some (.lst us) → IsA H2 us (ps.map g) → Qd H2) :
    ∃ W : Nat → Nat → Hp → Prop, (∃ m, W 0 m (upd H1 Z (.lst []))) ∧ ∀ i m H, W i m H →
      (J.stop i H ∧ Qd H) ∨ (J.go i H ∧ ∃ Nx : Hp → Prop, (∀ H', Nx H' → ∃ m', m' < m ∧ W (i + 1) m' H') ∧ ∀ x H', J.yld i H x H' → gName i0 x (wipe σ vs) H' fun σ2 H2 => wipe σ2 vs = wipe σ vs ∧ tYes σ2 H2 fun b H3 =>
        if b = true then te σ2 H3 fun y H4 => ∃ acc, H4 Z = some (.lst acc) ∧ acc.length < sizeLine ∧ Nx (upd H4 Z (.lst (acc ++ [y]))) else Nx H3) := by
  have hxl : xs.length = ps.length := by rw [hxs.len, List.length_map]
  refine lc_it W (fun i H' => ∃ us : List V, Same H1 H' ∧ H' Z = some (.lst us) ∧ IsA H' us ((ps.take i).map g)) ?_ ?_ ?_ ?_
  · exact ⟨[], same_new hZ _, upd_same, .nil⟩
  · rintro i H2 _ ⟨us, h, _⟩
    exact hG H2 h
  · rintro i x H2 H3 hi ⟨us, S2, hZ2, IA⟩ ⟨rfl, hx⟩
    obtain ⟨p, hp, hxp⟩ := hxs.map_get hx
    refine ⟨hw x, yes_if ?_⟩
    refine turn i x p _ _ hp S2 (hxp.mono S2.tups) fun y H4 S4 I4 => ?_
    have lus : us.length = i := by rw [IA.len, List.length_map, List.length_take]; omega
    refine ⟨us, S4 _ _ hZ2, sz5' (by omega), us ++ [y], (S2.trans S4).mutN hZ, upd_same, ?_⟩
    have N : TupS H4 (upd H4 Z (.lst (us ++ [y]))) := (TupS.refl H4).mutL (S4 _ _ hZ2)
    rw [List.take_add_one, hp, List.map_append]
    exact ((IA.mono S4.tups).mono N).app (.cons (I4.mono N) .nil)
  · rintro H2 ⟨us, S2, hZ2, IA⟩
    rw [hxl, List.take_length] at IA
    exact done H2 us S2 hZ2 IA
/-! ### filled -/
abbrev Fl := List (Str × Say)
mutual
def Say.fill (fs : Fl) : Say → Say
  | .name x => (fs.lookup x).getD (.name x)
  | .skip => .skip
  | .app c w ps => .app c w (Say.fillA fs ps)
  | .two c a b => .two c (Say.fill fs a) (Say.fill fs b)
def Say.fillA (fs : Fl) : List Say → List Say
  | [] => []
  | s :: r => Say.fill fs s :: Say.fillA fs r
end
theorem Say.fillA_map {fs : Fl} : ∀ ps : List Say, Say.fillA fs ps = ps.map (Say.fill fs)
  | [] => rfl
  | s :: r => by simp only [Say.fillA, List.map_cons, Say.fillA_map r]
theorem Say.fill_app {fs : Fl} {c : Bool} {w : Str} {ps : List Say} : (Say.app c w ps).fill fs = .app c w (ps.map (Say.fill fs)) := by simp only [Say.fill, Say.fillA_map]
theorem Say.fill_two {fs : Fl} {c : Bool} {a b : Say} : (Say.two c a b).fill fs = .two c (a.fill fs) (b.fill fs) := by simp only [Say.fill]
theorem Say.fill_skip {fs : Fl} : Say.skip.fill fs = .skip := by simp only [Say.fill]
theorem Say.fill_name {fs : Fl} {x : Str} : (Say.name x).fill fs = (fs.lookup x).getD (.name x) := by simp only [Say.fill]
def pairDa (p : Str × Say) : Da := .tup [.str p.1, p.2.da]
def flDa (fs : Fl) : Da := .tup (fs.map pairDa)
def Say.parts : Say → List Say
  | .app _ _ ps => ps
  | .two _ a b => [a, b]
  | _ => []
def Say.withP : Say → List Say → Say
  | .app c w _, ps => .app c w ps
  | .two c _ _, [a, b] => .two c a b
  | s, _ => s
theorem Say.fill_parts {fs : Fl} {s : Say} (h : s.head ≠ "name") : s.fill fs = s.withP (s.parts.map (Say.fill fs)) := by
  cases s with
  | name x => exact absurd rfl h
  | skip => simp only [Say.fill, Say.withP]
  | app c w ps => rw [Say.fill_app]; rfl
  | two c a b => rw [Say.fill_two]; rfl
theorem Say.ok_parts {f : Str → Prop} {n : Nat} {s : Say} (h : Say.ok f (n + 1) s) : ∀ p ∈ s.parts, Say.ok f n p := by
  cases s with
  | name x => intro p hp; cases hp
  | skip => intro p hp; cases hp
  | app c w ps => exact h.2.2
  | two c a b =>
    intro p hp
    simp only [Say.parts, List.mem_cons, List.not_mem_nil, or_false] at hp
    rcases hp with rfl | rfl
    · exact h.2.1
    · exact h.2.2
theorem Say.parts_le {f : Str → Prop} {n : Nat} {s : Say} (h : Say.ok f (n + 1) s) : s.parts.length ≤ 3 := by
  cases s with
  | name x => exact Nat.zero_le _
  | skip => exact Nat.zero_le _
  | app c w ps => exact h.2.1
  | two c a b => show 2 ≤ 3; decide
theorem is_pair {H : Hp} {v : V} {p : Str × Say} (h : Is H v (pairDa p)) : ∃ a y, v = .ref a ∧ H a = some (.tup [.str p.1, y]) ∧ Is H y p.2.da := by
  cases h with
  | @tup a xs _ h1 h2 =>
    cases h2 with
    | cons p1 q1 =>
      cases q1 with
      | cons p2 q2 =>
        cases q2; cases p1
        exact ⟨a, _, rfl, h1, p2⟩
theorem is_fl {H : Hp} {v : V} {fs : Fl} (h : Is H v (flDa fs)) : ∃ a xs, v = .ref a ∧ H a = some (.tup xs) ∧ IsA H xs (fs.map pairDa) := by
  cases h with
  | @tup a xs _ h1 h2 => exact ⟨a, xs, rfl, h1, h2⟩
/-- a dict of the fills -/
def DR (H : Hp) (kvs : List (Key × V)) (fs : Fl) : Prop := ∀ x : Str, (∀ s, fs.lookup x = some s → ∃ u, valV kvs (Sum.inr x) = some u ∧ Is H u s.da) ∧ (fs.lookup x = none → valV kvs (Sum.inr x) = none)
theorem DR.mono {H H' : Hp} {kvs : List (Key × V)} {fs : Fl} (d : DR H kvs fs) (k : TupS H H') : DR H' kvs fs := fun x =>
  ⟨fun s hs => let ⟨u, h1, h2⟩ := (d x).1 s hs; ⟨u, h1, h2.mono k⟩, (d x).2⟩
theorem DR.snoc {H : Hp} {kvs : List (Key × V)} {fs : Fl} {x : Str} {s : Say} {u : V} (d : DR H kvs fs) (hn : fs.lookup x = none) (h : Is H u s.da) : DR H (putK kvs (Sum.inr x) u) (fs ++ [(x, s)]) := fun y => by
  rw [List.lookup_append, valV_put]
  by_cases e : y = x
  · subst e
    rw [hn, if_pos rfl]
    have e1 : List.lookup y [(y, s)] = some s := by simp [List.lookup]
    rw [e1]
    exact ⟨fun s' hs' => by
      have : s = s' := by simpa using hs'
      subst this
      exact ⟨u, rfl, h⟩, fun z => by simp at z⟩
  · have e0 : (y == x) = false := beq_eq_false_iff_ne.mpr e
    have e1 : List.lookup y [(x, s)] = none := by simp only [List.lookup, e0]
    have e2 : ¬ (Sum.inr y : Key) = Sum.inr x := fun z => e (Sum.inr.inj z)
    rw [e1, if_neg e2, Option.or_none]
    exact d y
theorem put_len {kvs : List (Key × V)} {k : Key} {v : V} : (putK kvs k v).length ≤ kvs.length + 1 := by
  unfold putK
  split
  · rw [List.length_map]; omega
  · rw [List.length_append]; exact Nat.le_refl _
theorem lookup_none_of {fs : Fl} {x : Str} (h : x ∉ fs.map Prod.fst) : fs.lookup x = none := by
  induction fs with
  | nil => rfl
  | cons p r ih =>
    simp only [List.map_cons, List.mem_cons, not_or] at h
    obtain ⟨y, s⟩ := p
    have e : (x == y) = false := beq_eq_false_iff_ne.mpr h.1
    simp only [List.lookup, e]
    exact ih h.2
theorem nodup_take {fs : Fl} (h : (fs.map Prod.fst).Nodup) {i : Nat} {p : Str × Say} (hp : fs[i]? = some p) : p.1 ∉ (fs.take i).map Prod.fst := by
  intro hm
  have hi : i < fs.length := (List.getElem?_eq_some_iff.mp hp).1
  have hpi : fs[i] = p := (List.getElem?_eq_some_iff.mp hp).2
  rw [List.mem_map] at hm
  obtain ⟨q, hq, hqe⟩ := hm
  rw [List.mem_take_iff_getElem] at hq
  obtain ⟨j, hj, hjq⟩ := hq
  have hji : j < i := by omega
  have hjl : j < fs.length := by omega
  have e1 : (fs.map Prod.fst)[j]? = some p.1 := by
    rw [List.getElem?_map, List.getElem?_eq_getElem hjl]
    show some (fs[j].1) = some p.1
    rw [hjq, hqe]
  have e2 : (fs.map Prod.fst)[i]? = some p.1 := by rw [List.getElem?_map, hp]; rfl
  exact absurd (nd_ix h e1 e2) (by omega)
theorem Say.fill_ok {fs : Fl} {k : Nat} (hk : ∀ p ∈ fs, Say.ok (fun _ => True) k p.2) : ∀ {n : Nat} {s : Say}, Say.ok (fun _ => True) n s → Say.ok (fun _ => True) (n + k) (s.fill fs)
  | 0, _, h => h.elim
  | n + 1, .name x, _ => by
    rw [Say.fill_name]
    cases hl : fs.lookup x with
    | none =>
      show Say.ok _ (n + 1 + k) (.name x)
      rw [show n + 1 + k = (n + k) + 1 by omega]
      exact True.intro
    | some s =>
      obtain ⟨l1, l2, e, _⟩ := List.lookup_eq_some_iff.mp hl
      exact Say.ok_mono (by omega) (hk (x, s) (by rw [e]; simp))
  | n + 1, .skip, _ => by
    rw [Say.fill_skip, show n + 1 + k = (n + k) + 1 by omega]
    exact True.intro
  | n + 1, .app c w ps, h => by
    rw [Say.fill_app, show n + 1 + k = (n + k) + 1 by omega]
    refine ⟨True.intro, by rw [List.length_map]; exact h.2.1, fun p hp => ?_⟩
    obtain ⟨q, hq, rfl⟩ := List.mem_map.mp hp
    exact Say.fill_ok hk (h.2.2 q hq)
  | n + 1, .two c a b, h => by
    rw [Say.fill_two, show n + 1 + k = (n + k) + 1 by omega]
    exact ⟨True.intro, Say.fill_ok hk h.2.1, Say.fill_ok hk h.2.2⟩
mutual
theorem Say.fill_nil : ∀ s : Say, s.fill [] = s
  | .name x => by rw [Say.fill_name]; rfl
  | .skip => Say.fill_skip
  | .app c w ps => by simp only [Say.fill, Say.fillA_nil ps]
  | .two c a b => by simp only [Say.fill, Say.fill_nil a, Say.fill_nil b]
theorem Say.fillA_nil : ∀ ps : List Say, Say.fillA [] ps = ps
  | [] => rfl
  | s :: r => by simp only [Say.fillA, Say.fill_nil s, Say.fillA_nil r]
end
end Nf

set_option Elab.async false
set_option linter.all false
set_option maxRecDepth 100000
namespace Nf
open PySem PySem.Spec PyProof.Rows L2
/-! ### enumerate of a tuple -/
abbrev enumObj (n : Addr) : Obj := { cls := .type "enumerate", data := .fields #[.none, .bool false, .ref n, rawInt 0, .none, .none] }
abbrev titObj (t : Addr) : Obj := { cls := .type "tuple_iterator", data := .fields #[.ref t, .int 0 0] }
set_option maxHeartbeats 1000000 in
theorem meets_enumT (t : Addr) (its : Array Value) : Meets (Builtin.«enumerate.__new__» ⟨[.type "enumerate", .ref t], []⟩)
    (fun _ R s => s.heap.IsTuple t its ∧ R (.ok (.ret (.ref (s.heap.push (titObj t)).objs.size))) { s with heap := (s.heap.push (titObj t)).push (enumObj s.heap.objs.size) }) :=
  .of_wp fun prog w A R s h => by
    obtain ⟨hp, gg, dr, tk, os⟩ := s
    obtain ⟨ht, h⟩ := h
    have hsub := sub_enumerate
    have it1 : ∀ {A2 : Around} {E2 : Value → Shared → Prop} {Q2 : Value → Shared → Prop}, Q2 (.ref hp.objs.size) ⟨hp.push (titObj t), gg, dr, tk, os⟩ → wpAny (model prog w) A2 (pyIter (.ref t)) Q2 E2 ⟨hp, gg, dr, tk, os⟩ :=
      fun q => (begins_tuple t its).iter prog w _ _ ⟨hp, gg, dr, tk, os⟩ _ ht q
    wp_walk using it1
    refine wpAny_stack_any fun st => wpAny_pure ?_
    split
    · rename_i cc _ _ _ _ _
      cases (cc == Value.type "enumerate") <;> (wp_walk using it1; exact ⟨_, rfl, h⟩)
    · wp_walk using it1
      exact ⟨_, rfl, h⟩
theorem call_enumT {prog : Program} {w : World} {A : Around} {E : Value → Shared → Prop} {s : Shared} {t : Addr} {its : Array Value} {Q : Value → Shared → Prop} (ht : s.heap.IsTuple t its)
    (h : ∀ h', IsEnum h' (s.heap.objs.size + 1) s.heap.objs.size 0 .none → h'.IsTupleIter s.heap.objs.size t 0 → h'.objs.size = s.heap.objs.size + 2 →
      (∀ b o, s.heap.get? b = some o → h'.get? b = some o) → Q (.ref (s.heap.objs.size + 1)) { s with heap := h' }) :
    wpAny (model prog w) A (call (.type "enumerate") [.ref t]) Q E s := by
  have hz : (s.heap.push (titObj t)).objs.size = s.heap.objs.size + 1 := Heap.size_push ..
  refine callType_new F.called_enumerate (by decide) (F.typeCall_enumerate_1 _) (F.newCall_enumerate_1 _)
    (fun obj => F.args_object_init_2 obj _) F.entry_enumerate_new (meets_enumT t its) ⟨ht, ?_⟩
  have he : IsEnum ((s.heap.push (titObj t)).push (enumObj s.heap.objs.size)) (s.heap.objs.size + 1) s.heap.objs.size 0 .none := by
    have q := Heap.get?_push_size (s.heap.push (titObj t)) (o := enumObj s.heap.objs.size) rfl
    rw [hz] at q
    exact q
  show _ ∧ _
  rw [hz]
  exact ⟨⟨_, he, rfl⟩, h _ he ⟨_, Heap.get?_push_of_some _ (Heap.get?_push_size _ rfl), rfl, rfl⟩ (by rw [Heap.size_push, hz])
    fun b o x => Heap.get?_push_of_some _ (Heap.get?_push_of_some _ x)⟩
theorem next_enumT_end {prog : Program} {w : World} {A : Around} {E : Value → Shared → Prop} {s : Shared} {e it l : Addr} {i : Nat} {n : Int} {its : Array Value} {old : Value} {Q : Option Value → Shared → Prop}
    (hh : A.handled = none) (he : IsEnum s.heap e it n old) (hit : s.heap.IsTupleIter it l i) (hl : s.heap.IsTuple l its) (hx : its[i]? = none)
    (hQ : ∀ h', Heap.ExtBut it s.heap h' → Q none { s with heap := h' }) : wpAny (model prog w) A (pyNext (.ref e)) Q E s := by
  have ty : s.TypeIs (.ref e) "enumerate" := ⟨_, he, rfl⟩
  unfold pyNext
  refine wpAny_bind (wpAny_attempt ?_)
  refine wpAny_callSpecial?_slot (name := Str.ofString "__next__") ty F.slot_enumerate_next ?_
  refine wpAny_call_entry F.slot_enumerate_next ty F.entry_enumerate_next ?_ (F.args_enumerate_next_1 _)
  show wpAny _ _ (field (.ref e) 2 >>= _) _ _ s
  refine wpAny_bind (wpAny_field he rfl (x := .ref it) rfl ?_)
  refine wpAny_bind (wpAny_nextOf_tuple_end hh hit hl hx fun h' z hk hz => ?_)
  obtain ⟨oz, hoz, hcz⟩ := hz
  exact wpAny_bind (wpAny_isInstance (T := "StopIteration") (b := true) ⟨oz, hoz, hcz⟩ isSubtype_stop (wpAny_pure (hQ _ hk)))
/-- the tuple at a, each item in a new pair -/
def IteT (K : PySem.W.Frag) (a : Addr) : It where
  go := fun i H => ∃ (xs : List V) (x : V), SqT K H a xs ∧ xs[i]? = some x
  yld := fun i H v H' => ∃ T x, v = .ref T ∧ H T = none ∧ H' = upd H T (.tup [.int (i : Nat), x]) ∧ ∀ xs, SqT K H a xs → xs[i]? = some x
  stop := fun i H => ∃ xs : List V, SqT K H a xs ∧ xs.length ≤ i
theorem turn_enumT {P : Program} {w : World} {K : PySem.W.Frag} {elts : List Expr} {kk : Nat} {tpos : Pos} (a e it : Addr) (hae : a ≠ it) (hae2 : a ≠ e) :
    Turn P w K (.Tuple elts kk tpos) (IteT K a) [e, it] e (fun i h => (∃ old, IsEnum h e it ((i : Nat) : Int) old) ∧ h.IsTupleIter it a i ∧ e ≠ it) where
  mem := by simp
  obj := fun i h st b hb => by
    obtain ⟨⟨old, he⟩, ⟨o, ho, hc, hd⟩, _⟩ := st
    rcases (show b = e ∨ b = it by simpa using hb) with z | z
    · exact z ▸ ⟨_, he, fun v q => nomatch q⟩
    · exact z ▸ ⟨o, ho, fun v q => by rw [hd] at q; cases q⟩
  keep := fun i h h' st k => ⟨st.1.imp fun old he => k e (by simp) _ he, st.2.1.at fun o q => k it (by simp) o q, st.2.2⟩
  item := by
    intro X hP hw hK hc i pins s σ H E I hf st hg
    subst hP hw hK
    obtain ⟨⟨old, he⟩, hit, hne⟩ := st
    obtain ⟨xs, x, hq, hx⟩ := hg
    obtain ⟨its, rv, p, hz⟩ := I.tuple hq
    obtain ⟨u, hu, ru⟩ := rv.get hx
    have hel : e < s.heap.objs.size := Heap.lt_size he
    have hil : it < s.heap.objs.size := by obtain ⟨_, q, _⟩ := hit; exact Heap.lt_size q
    have hlt : i < its.toArray.size := by
      have := (List.getElem?_eq_some_iff.mp hu).1
      simpa using this
    have hef : e ∉ [it, a] := by
      intro m
      rcases (show e = it ∨ e = a by simpa using m) with z | z
      · exact hne z
      · exact hae2 z.symm
    refine wpAny_pyNext_enum_itemD (Draws.tuple (A := X.A.in1) (show X.A.in1.handled = none from I.ok.hd hc) it a hae its.toArray) he ⟨hit, p⟩ hlt hne hef fun y h' tk hy ho hit' hT hsz hk => ?_
    have ey : y = u := by
      have h1 : its[i]? = some y := by simpa using hy
      rw [hu] at h1
      exact (Option.some.inj h1).symm
    subst ey
    refine ⟨_, rfl, wpAny_letOwnedTupleGo_enum (s := { s with heap := h', toks := tk + 1 }) ho fun h'' he' sb => ?_⟩
    have hT2 : h''.get? s.heap.objs.size = some { cls := .type "tuple", data := .seq #[.int i tk, y] } := (sb.2 _ (Nat.ne_of_gt hel)).trans hT
    have new : ObjOk X.prog X.w (upd H s.heap.objs.size (.tup [.int (i : Nat), x])) h'' s.heap.objs.size (.tup [.int (i : Nat), x]) :=
      ⟨by show 2 ≤ sizeLine; decide, [.int i tk, y], .cons ⟨_, rfl⟩ (.cons ru .nil), ⟨_, hT2, rfl, _, rfl⟩⟩
    have I1 : Inv X pins σ (upd H s.heap.objs.size (.tup [.int (i : Nat), x])) { s with heap := h'', toks := tk + 1 } :=
      I.turnedNew (ch := [e, it]) (fun b ob hb q => by
        have nb : b ≠ e ∧ b ≠ it := by simpa using hb
        exact (sb.2 b nb.1).trans (hk b ob nb.1 nb.2 q)) hf (Nat.le_refl _) new
    refine ⟨.ref s.heap.objs.size, _, I1, rfl, ⟨_, x, rfl, I.hok.fresh (Nat.le_refl _), rfl, fun ys hy => by rw [I.tuple_inj hy hq]; exact hx⟩, ⟨⟨y, ?_⟩, hit'.1.at fun o q => (sb.2 it (Ne.symm hne)).trans q, hne⟩, fun b hb => ?_⟩
    · rw [show ((i + 1 : Nat) : Int) = (i : Int) + 1 by omega]
      exact he'
    · have hb' : b < s.heap.objs.size := by
        rcases (show b = e ∨ b = it by simpa using hb) with z | z
        · exact z ▸ hel
        · exact z ▸ hil
      rw [upd_ne (Nat.ne_of_lt hb')]
      exact (hf b hb).1
  done := by
    intro X hP hw hK hc i pins s σ H E I hf st hg
    subst hP hw hK
    obtain ⟨⟨old, he⟩, hit, hne⟩ := st
    obtain ⟨xs, hq, hx⟩ := hg
    obtain ⟨its, rv, p, hz⟩ := I.tuple hq
    obtain ⟨f0, f1, f2, f3, f4, f5⟩ := hf it (by simp)
    have hl := rv.length
    exact next_enumT_end (I.ok.hd hc) he hit p (by simp; omega) fun h' eb => ⟨rfl, I.turned (t' := s.toks) (fun b o hb q => eb b o hb q) f0 f1 f3 f4 f5⟩
  self := fun A i s Q E st h => by
    obtain ⟨⟨_, he⟩, _⟩ := st
    exact wpAny_pyIter_enum he h
def iEnumT (K : PySem.W.Frag) (ta : TA) : TI := fun σ H R => ta σ H fun vs H1 => ∃ a xs, vs = [.ref a] ∧ SqT K H1 a xs ∧ R (IteT K a) H1
theorem pi_enumT {X : Cx} {e : Expr} {ta : TA} {p pos tpos : Pos} {elts : List Expr} {kk : Nat} (hg : Gl X "enumerate") (hm : X.mg "enumerate" = none) (ha : PA X [e] ta)
    (hs : starEach [e] X.env = [(false, eval e X.env)] := by rfl) : PI X (.Tuple elts kk tpos) (.Call (.Name "enumerate" p) [e] [] pos) (iEnumT X.K ta) := by
  refine ⟨fun pins s σ H R I h => ?_⟩
  refine Call_ (ld_blt I hg hm boot_enumerate (callWith_type1 (thn (ha.run pos pins s σ H _ I h) fun us s1 ⟨vs, H1, I1, r1, q1⟩ => ?_) hs rfl))
  obtain ⟨a, xs, ex, hq, q⟩ := q1
  subst ex
  cases r1 with
  | cons r rr =>
    cases rr
    cases r
    obtain ⟨its, rv, pt, hz⟩ := I1.tuple hq
    have hal : a < s1.heap.objs.size := by
      obtain ⟨o, ho, _⟩ := id pt
      exact Heap.lt_size ho
    refine call_enumT (its := its.toArray) pt fun h' he hit hsz hk => wpAny_pyIter_enum he ?_
    have I2 : Inv X pins σ H1 { s1 with heap := h' } := I1.kept (t' := s1.toks) hk
    refine ⟨s1.heap.objs.size + 1, [s1.heap.objs.size + 1, s1.heap.objs.size], _, _, H1, rfl, I2, turn_enumT a (s1.heap.objs.size + 1) s1.heap.objs.size (Nat.ne_of_lt hal) (Nat.ne_of_lt (Nat.lt_succ_of_lt hal)), ⟨⟨.none, he⟩, hit, Nat.succ_ne_self _⟩, fun b hb => ?_, q⟩
    have hle : s1.heap.objs.size ≤ b := by
      rcases (show b = s1.heap.objs.size + 1 ∨ b = s1.heap.objs.size by simpa using hb) with z | z
      · exact z ▸ Nat.le_succ _
      · exact z ▸ Nat.le_refl _
    exact I1.fpOk hle (I1.hok.fresh hle)
theorem walk_enumT {K : PySem.W.Frag} {a : Addr} {xs : List V} : Walk (IteT K a) xs.length (fun H => SqT K H a xs) (YPair (fun i => some (.int (i : Nat))) (fun i => xs[i]?)) := by
  refine ⟨fun i _ hi q => ⟨xs, xs[i], q, by simp [hi]⟩, fun _ q => ⟨xs, q, Nat.le_refl _⟩, fun i H v H' _ q y => ?_⟩
  obtain ⟨T, x, h1, h2, h3, h4⟩ := y
  exact ⟨T, .int (i : Nat), x, h1, h2, h3, rfl, h4 xs q⟩
end Nf

set_option Elab.async false
set_option linter.all false
set_option maxRecDepth 100000
namespace Nf
open PySem PySem.Spec PyProof.Rows L2
/-! ### tuple of a dict's keys -/
section
variable {prog : Program} {w : World} {A : Around} {E : Value → Shared → Prop} {s : Shared} {r d : Addr} {n : Nat} {TT : String} {P : Nat → Value → Prop} {OK : Heap → Prop}
theorem code_tup_src {Q : Value → Shared → Prop} (S : PySem.W.KdlSrc prog w TT r d n P OK) (hh : A.handled = none) (hok : OK s.heap) (hn : n ≤ sizeLine)
    (h : ∀ (h' : Heap) (tk : Nat) (acc : Array Value), (∀ b o, s.heap.get? b = some o → h'.get? b = some o) → ItemsOf P acc n →
      Q (.ref h'.objs.size) { s with heap := h'.push { cls := .type "tuple", data := .seq acc }, toks := tk }) :
    codeAny (model prog w) A (.call (.builtin "tuple.__new__") ⟨[.type "tuple", .ref r], []⟩) (wants Q E) s := by
  refine codeAny_of_tree ?_
  show wpAny _ A.in1 (do
    checkBuiltinCall "tuple.__new__" ⟨[.type "tuple", .ref r], []⟩
    again (.builtin "tuple.__new__" ⟨[.type "tuple", .ref r], []⟩)) _ _ s
  refine wpAny_bind (wpAny_of_eq (F.newCall_tuple_1 _) ?_)
  refine wpAny_pure ⟨plainId_quiet F.plain_tuple_new _, codeAny_builtin F.entry_tuple_new ?_⟩
  rw [Around.under_plainId F.plain_tuple_new _]
  have s1 := sub_tuple_self
  have s2 := init_tuple_lookup
  have s3 := madeHere_tuple
  have ty := S.type s hok
  have nt : TT ≠ "tuple" := fun e => by
    have q := S.notTuple
    rw [e] at q
    exact absurd q (by decide)
  have nt2 := S.notTuple
  have hh1 : A.in1.handled = none := hh
  wp_walk using wpAny_typeOf ty, PySem.W.kdu_collect (A := A.in1) S hh1 hok hn
  intro h' tk acc hk hacc
  show wpAny _ _ (Builtin.Tuple.tupleExact acc.toList.toArray >>= fun v => ret v) _ _ _
  unfold Builtin.Tuple.tupleExact
  have e : acc.toList.toArray = acc := by simp
  rw [e]
  refine wpAny_bind (wpAny_newObj_type (wpAny_pure (h h' tk acc hk hacc)) ?_)
  show acc.size ≤ sizeLine
  rw [hacc.1]
  exact hn
theorem call_tup_src {Q : Value → Shared → Prop} (S : PySem.W.KdlSrc prog w TT r d n P OK) (hh : A.handled = none) (hok : OK s.heap) (hn : n ≤ sizeLine)
    (h : ∀ (h' : Heap) (tk : Nat) (acc : Array Value), (∀ b o, s.heap.get? b = some o → h'.get? b = some o) → ItemsOf P acc n →
      Q (.ref h'.objs.size) { s with heap := h'.push { cls := .type "tuple", data := .seq acc }, toks := tk }) :
    wpAny (model prog w) A (call (.type "tuple") [.ref r]) Q E s := by
  refine callType_codes (Q₁ := fun obj z => z.TypeIs obj "tuple" ∧ Q obj z) F.called_tuple (F.typeCall_tuple_1 _) F.entry_object_init ?_ fun obj z hz => ?_
  · exact code_tup_src (A := A.in1) S hh hok hn fun h' tk acc hk hacc => ⟨⟨_, Heap.get?_push_size _ rfl, rfl⟩, h h' tk acc hk hacc⟩
  · exact ⟨hz.1, F.args_object_init_2 obj _, object_init_meets F.called_tuple.init.lookup F.called_tuple.made (by decide) prog w A.in1 _ z ⟨hz.1, rfl, hz.2⟩⟩
end
def rTupD : List V → Hp → VK → Prop := fun xs H Q => ∃ p kvs, xs = [.ref p] ∧ H p = some (.dK kvs) ∧ ∀ q, H q = none → Q (.ref q) (upd H q (.tup (kvs.map fun kv => kV kv.1)))
theorem call_tup_dK {X : Cx} (hc : X.calm = true) : CallR X (.type "tuple") rTupD := by
  intro pins s σ H xs us Q I r h
  obtain ⟨p, kvs, rfl, hk, q⟩ := h
  obtain ⟨u, rfl, rx⟩ := vals1 r
  obtain rfl : u = Value.ref p := rx
  obtain ⟨z, lo, vs, rk, hd⟩ := (show ObjOk X.prog X.w H s.heap p (.dK kvs) from I.hok p _ hk)
  obtain ⟨ep, hat⟩ := hd.dictAt
  have hl : kvs.length = vs.length := Paired.length rk
  refine call_tup_src (PySem.W.kdl_dict (knd := mixKind X.prog X.w) (kvs := vs) (ep := ep) lo) (I.ok.hd hc) hat (hl ▸ z) fun h' tk acc hkeep hacc => ?_
  have I1 : Inv X pins σ H { s with heap := h', toks := tk } := I.kept (t' := tk) hkeep
  refine ⟨.ref h'.objs.size, upd H h'.objs.size (.tup (kvs.map fun kv => kV kv.1)), I1.laid (t' := tk) (fun b o e => Heap.get?_push_of_some _ e) (Nat.le_refl _) ?_, rfl, q _ (I1.hok.fresh (Nat.le_refl _))⟩
  refine (show ObjOk X.prog X.w _ _ _ (.tup (kvs.map fun kv => kV kv.1)) from ⟨by rw [List.length_map]; exact z, acc.toList, ?_, ?_⟩)
  · have el : acc.toList.length = acc.size := by simp
    refine vals_of_at (by rw [List.length_map, el, hacc.1, hl]) fun j x y h1 h2 => ?_
    obtain ⟨k, m, hky, hi⟩ := hacc.2 j y (by rw [← Array.getElem?_toList]; exact h2)
    have e1 : (kvs.map (·.1))[j]? = some k := by
      rw [KV.keys rk, List.getElem?_map, hky] <;> rfl
    rw [List.getElem?_map] at h1 e1
    obtain ⟨kv, hkv, rfl⟩ := Option.map_eq_some_iff.mp h1
    rw [hkv] at e1
    cases e1
    exact keyIs_rel hi
  · rw [Array.toArray_toList]
    exact IsTup.new _ _
/-! ### y = {k: v for ..} -/
section
variable {X : Cx}
theorem ps_setDc {i : Nat} {y : Str} {py : Pos} {kx vx tg iter : Expr} {ifs : List Expr} {scope : Scope} {own : List (Str × Nat)} {pos spos : Pos} {wi : TI} {g : TG} {tt : TT} {tk tv : TE}
    (hc : X.calm = true) (hN : X.N.Nodup) (hy : X.N[i]? = some y) (hyl : X.env.scope.names.lookup y = some .local)
    (hsw : swapsWith (.DictComp kx vx [⟨tg, iter, ifs, 0⟩] scope pos) (some (.Name y py)) spos.line X.env = pure true)
    (hi : PI X tg iter wi) (ok : BlkOk X.N X.env.scope scope own)
    (hg : ∀ (z : Shared) (H : Hp) (C : Addr) (cl : List (Str × Addr)) (fp : List Addr), PG (X.blk z H scope (compEnvC scope cl C X.env) fp) tg g)
    (ht : ∀ (z : Shared) (H : Hp) (C : Addr) (cl : List (Str × Addr)) (fp : List Addr), PTs (X.blk z H scope (compEnvC scope cl C X.env) fp) ifs tt)
    (hk : ∀ (z : Shared) (H : Hp) (C : Addr) (cl : List (Str × Addr)) (fp : List Addr), PE (X.blk z H scope (compEnvC scope cl C X.env) fp) kx tk)
    (he : ∀ (z : Shared) (H : Hp) (C : Addr) (cl : List (Str × Addr)) (fp : List Addr), PE (X.blk z H scope (compEnvC scope cl C X.env) fp) vx tv)
    (hs : ∀ x, foldedSetIterable iter X.env x = pure x := by intro _; rfl) :
    PS X (.Assign [.Name y py] (.DictComp kx vx [⟨tg, iter, ifs, 0⟩] scope pos) spos) (tAsg (tDc wi g tt tk tv (own.map (·.2))) (gName i)) := by
  refine ⟨fun pins s σ H D I h => ?_⟩
  rw [exec_Assign_Name_used _ _ _ _ hsw]
  refine wpAny_bind (wpAny_standAt (wpAny_bind ?_))
  show wpAny _ X.A (do
    let _ ← comprehension (.DictComp kx vx [⟨tg, iter, ifs, 0⟩] scope pos) scope X.env (firstIterPos [⟨tg, iter, ifs, 0⟩] pos) newDict false (eval iter X.env) (some (assign (.Name y py) X.env))) _ _ s
  have h' : tDc wi g tt tk tv (own.map (·.2)) σ H (fun x H1 => gName i x σ H1 D.nx) := h
  refine wpAny_bind (thn (dc_core (Qf := fun _ z => SP X pins D .next z) hc hN I hi ok hg ht hk he hs h' fun L C z m H' I' q hn f => ?_) fun _ z hq => wpAny_pure (wpAny_pure hq))
  show wpAny _ _ (assign (.Name y py) X.env (.ref L)) _ _ _
  refine wpAny_assign_Name (store_ok2 (v := V.ref L) I' hN hy (.inl hyl) rfl (fun z2 I2 ⟨a, sb, ha⟩ => ?_) (.inr hyl))
  obtain ⟨f0, f1, f2, f3, f4, f5⟩ := f
  have haC : C ≠ a := by
    rcases ha with e | e
    · exact e ▸ f1
    · exact fun e' => f4 y a e e'.symm
  exact ⟨m, hn.sameBut sb haC, fun h3 sb3 => ⟨_, H', I2.turned (t' := z2.toks) (fun b o hb e => (sb3.2 b hb).trans e) f0 f1 f3 f4 f5, q⟩⟩
theorem sw_trueD {kx vx : Expr} {gs : List Comprehension} {scope : Scope} {pos py : Pos} {y : Str} {l : Nat} {env : Env} (hk : env.scope.kind = .function) (hy : env.scope.names.lookup y = some .local) (hl : (py.line == pos.line) = true)
    (ha : (scope.names.any fun (n, k) => n == y && (k == .local || k == .cell)) = false) : swapsWith (.DictComp kx vx gs scope pos) (some (.Name y py)) l env = pure true := by
  have k1 : env.kindOf y = some .local := hy
  have k2 : env.blockKind = .function := by
    unfold Env.blockKind
    rw [hk]
    rfl
  unfold swapsWith
  simp only [k2, k1, ha, Expr.pos, hl]
  rfl
end
/-! ### xs != [] -/
def rNeNil (K : PySem.W.Frag) : R2 := fun x y H Q => ∃ a b xs, x = .ref a ∧ y = .ref b ∧ SqL K H a xs ∧ SqL K H b [] ∧ Q (.bl (!xs.isEmpty)) H
theorem op_ne_nil {X : Cx} (hu : X.A.units < cLine) : OpR X (compareOp .NotEq) (rNeNil X.K) := by
  intro pins s σ H x y v u Q I rx ry h
  obtain ⟨a, b, xs, rfl, rfl, ha, hb, q⟩ := h
  cases rx
  cases ry
  obtain ⟨i1, r1, p1, _⟩ := I.list ha
  obtain ⟨i2, r2, p2, _⟩ := I.list hb
  cases r2
  cases r1 with
  | nil => exact SeqAt.RcNeAt.lists (e := fun _ => true) p1.isList p2.isList rfl hu (fun j h1 _ => absurd h1 (by simp)) X.prog X.w _ _ ⟨.bl false, H, I, rfl, q⟩
  | cons r rr => exact SeqAt.RcNeAt.lists_lengths p1.isList p2.isList (by simp) hu X.prog X.w _ _ ⟨.bl true, H, I, rfl, q⟩
end Nf

set_option Elab.async false
set_option linter.all false
set_option maxRecDepth 100000
namespace Nf
open PySem L2
/-! ### a while with a ghost that falls -/
theorem while_g {α : Type} {c : TT} {tb : TS} {D : Ends} {σ : L2.St} {H : Hp} (Pv : α → L2.St → Hp → Prop) (μ : α → Nat) (x0 : α) (h0 : Pv x0 σ H)
    (hs : ∀ x σ H, Pv x σ H → c σ H fun b H1 => if b = true then ∃ N : L2.St → Hp → Prop, (∀ σ' H', N σ' H' → ∃ m', m' < μ x ∧ ∃ y, μ y = m' ∧ Pv y σ' H') ∧ tb { D with nx := N, ct := N, bk := D.nx } σ H1 else D.nx σ H1) : tWhile c tb D σ H := by
  refine ⟨fun m σ H => ∃ x, μ x = m ∧ Pv x σ H, ⟨_, x0, rfl, h0⟩, ?_⟩
  rintro m σ H ⟨x, rfl, p⟩
  exact hs x σ H p
theorem seq_in {t1 t2 : TS} {D : Ends} {σ : L2.St} {H : Hp} (h : t1 { D with nx := t2 D } σ H) : tSeq t1 t2 D σ H := h
theorem next_in {D : Ends} {σ : L2.St} {H : Hp} (h : D.nx σ H) : tNext D σ H := h
theorem stp_g {α : Type} {tb : TS} {D : Ends} {σ : L2.St} {H1 : Hp} {Pv : α → L2.St → Hp → Prop} {μ : α → Nat} {x : α}
    (h : tb { D with nx := fun σ' H' => ∃ y, μ y < μ x ∧ Pv y σ' H', ct := fun σ' H' => ∃ y, μ y < μ x ∧ Pv y σ' H', bk := D.nx } σ H1) :
    ∃ N : L2.St → Hp → Prop, (∀ σ' H', N σ' H' → ∃ m', m' < μ x ∧ ∃ y, μ y = m' ∧ Pv y σ' H') ∧ tb { D with nx := N, ct := N, bk := D.nx } σ H1 :=
  ⟨_, fun _ _ ⟨y, h1, h2⟩ => ⟨μ y, h1, y, rfl, h2⟩, h⟩
/-! ### nodes -/
abbrev Nd := List Int × Say
mutual
def Say.nod (p : List Int) : Say → List Nd
  | .name x => [(p, .name x)]
  | .skip => [(p, .skip)]
  | .app c w ps => (p, .app c w ps) :: Say.nodA p 0 ps
  | .two c a b => (p, .two c a b) :: (Say.nod (p ++ [0]) a ++ Say.nod (p ++ [1]) b)
def Say.nodA (p : List Int) (k : Nat) : List Say → List Nd
  | [] => []
  | s :: r => Say.nod (p ++ [(k : Int)]) s ++ Say.nodA p (k + 1) r
end
/-- the parts with their paths -/
def kids (p : List Int) : Nat → List Say → List Nd
  | _, [] => []
  | k, s :: r => (p ++ [(k : Int)], s) :: kids p (k + 1) r
def ndAll (st : List Nd) : List Nd := st.flatMap fun q => q.2.nod q.1
theorem nodA_kids (p : List Int) : ∀ (k : Nat) (ps : List Say), Say.nodA p k ps = ndAll (kids p k ps)
  | _, [] => by simp [Say.nodA, kids, ndAll]
  | k, s :: r => by
    simp only [Say.nodA, kids, ndAll, List.flatMap_cons]
    rw [nodA_kids p (k + 1) r]
    rfl
theorem nod_eq (p : List Int) (s : Say) : s.nod p = (p, s) :: ndAll (kids p 0 s.parts) := by
  cases s with
  | name x => simp [Say.nod, Say.parts, kids, ndAll]
  | skip => simp [Say.nod, Say.parts, kids, ndAll]
  | app c w ps => simp only [Say.nod, Say.parts, nodA_kids]
  | two c a b => simp [Say.nod, Say.parts, kids, ndAll]
theorem ndAll_cons {q : Nd} {r : List Nd} : ndAll (q :: r) = q :: ndAll (kids q.1 0 q.2.parts ++ r) := by
  show q.2.nod q.1 ++ ndAll r = _
  rw [nod_eq]
  unfold ndAll
  rw [List.flatMap_append]
  rfl
theorem kids_len (p : List Int) : ∀ (k : Nat) (ps : List Say), (kids p k ps).length = ps.length
  | _, [] => rfl
  | k, _ :: r => by simp only [kids, List.length_cons, kids_len p (k + 1) r]
theorem kids_get (p : List Int) : ∀ (k : Nat) (ps : List Say) (i : Nat), (kids p k ps)[i]? = (ps[i]?).map fun s => (p ++ [((k + i : Nat) : Int)], s)
  | _, [], i => by simp [kids]
  | k, s :: r, 0 => by simp [kids]
  | k, s :: r, i + 1 => by
    simp only [kids, List.getElem?_cons_succ, kids_get p (k + 1) r i]
    rw [show k + 1 + i = k + (i + 1) by omega]
theorem kids_mem {p : List Int} {k : Nat} {ps : List Say} {q : Nd} (h : q ∈ kids p k ps) : q.2 ∈ ps := by
  obtain ⟨i, hi⟩ := List.getElem?_of_mem h
  rw [kids_get] at hi
  obtain ⟨s, hs, rfl⟩ := Option.map_eq_some_iff.mp hi
  exact List.mem_of_getElem? hs
def ndDa (q : Nd) : Da := .tup [.tup (q.1.map Da.int), q.2.da]
def ndsDa (l : List Nd) : Da := .tup (l.map ndDa)
theorem is_nd {H : Hp} {v : V} {q : Nd} (h : Is H v (ndDa q)) : ∃ a b y xs, v = .ref a ∧ H a = some (.tup [.ref b, y]) ∧ H b = some (.tup xs) ∧ IsA H xs (q.1.map Da.int) ∧ Is H y q.2.da := by
  cases h with
  | @tup a xs _ h1 h2 =>
    cases h2 with
    | cons p1 q1 =>
      cases q1 with
      | cons p2 q2 =>
        cases q2
        cases p1 with
        | tup h3 h4 => exact ⟨a, _, _, _, rfl, h1, h3, h4, p2⟩
/-- how many nodes a saying has, told by its depth -/
theorem nod_len {f : Str → Prop} : ∀ {n : Nat} {s : Say} (p : List Int), Say.ok f n s → (s.nod p).length ≤ 4 ^ n
  | 0, _, _, h => h.elim
  | n + 1, s, p, h => by
    rw [nod_eq, List.length_cons]
    have h3 := Say.parts_le h
    have ho := Say.ok_parts h
    have key : ∀ (k : Nat) (ps : List Say), (∀ q ∈ ps, Say.ok f n q) → (ndAll (kids p k ps)).length ≤ ps.length * 4 ^ n := by
      intro k ps
      induction ps generalizing k with
      | nil => intro _; simp [kids, ndAll]
      | cons s r ih =>
        intro hq
        have e : ndAll (kids p k (s :: r)) = s.nod (p ++ [(k : Int)]) ++ ndAll (kids p (k + 1) r) := rfl
        rw [e, List.length_append, List.length_cons, Nat.succ_mul]
        have h1 := nod_len (p ++ [(k : Int)]) (hq s (by simp))
        have h2 := ih (k + 1) fun q hm => hq q (by simp [hm])
        omega
    have h1 := key 0 s.parts ho
    have h2 : s.parts.length * 4 ^ n ≤ 3 * 4 ^ n := Nat.mul_le_mul_right _ h3
    have h4 : 0 < 4 ^ n := Nat.pow_pos (by decide)
    rw [Nat.pow_succ]
    omega
/-- paths are no longer than the depth -/
theorem nod_dep {f : Str → Prop} : ∀ {n : Nat} {s : Say} (p : List Int), Say.ok f n s → ∀ q ∈ s.nod p, q.1.length < p.length + n ∧ Say.ok f n q.2
  | 0, _, _, h => h.elim
  | n + 1, s, p, h => by
    rw [nod_eq]
    intro q hq
    rcases List.mem_cons.mp hq with rfl | hq
    · exact ⟨by show p.length < p.length + (n + 1); omega, h⟩
    · unfold ndAll at hq
      obtain ⟨z, hz, hqz⟩ := List.mem_flatMap.mp hq
      have ho := Say.ok_parts h z.2 (kids_mem hz)
      obtain ⟨i, hi⟩ := List.getElem?_of_mem hz
      rw [kids_get] at hi
      obtain ⟨s', _, rfl⟩ := Option.map_eq_some_iff.mp hi
      have := nod_dep (n := n) _ ho q hqz
      rw [List.length_append] at this
      exact ⟨by have := this.1; simp at this; omega, Say.ok_mono (by omega) this.2⟩
theorem nds_dep {f : Str → Prop} {n : Nat} {s : Say} (h : Say.ok f n s) (hn : n ≤ 8) : Da.dep (2 * n + 4) (ndsDa (s.nod [])) := by
  unfold ndsDa
  refine ⟨?_, fun d hd => ?_⟩
  · rw [List.length_map]
    have h1 := nod_len [] h
    have h2 : 4 ^ n ≤ 4 ^ 8 := Nat.pow_le_pow_right (by decide) hn
    have h3 : 4 ^ 8 = 65536 := by decide
    omega
  · obtain ⟨q, hq, rfl⟩ := List.mem_map.mp hd
    obtain ⟨h1, h2⟩ := nod_dep [] h q hq
    refine ⟨by simp, fun d hd => ?_⟩
    simp at hd
    rcases hd with rfl | rfl
    · refine ⟨by rw [List.length_map]; simp at h1; omega, fun d hd => ?_⟩
      obtain ⟨i, _, rfl⟩ := List.mem_map.mp hd
      exact True.intro
    · exact Say.dep h2
/-! ### names, each once -/
def uadd (acc : List Str) (x : Str) : List Str := if x ∈ acc then acc else acc ++ [x]
def nmOf (q : Nd) : Option Str := match q.2 with
  | .name x => some x
  | _ => none
def ustep (acc : List Str) (q : Nd) : List Str := match nmOf q with
  | some x => uadd acc x
  | none => acc
def unames (l : List Nd) : List Str := l.foldl ustep []
theorem uadd_len (acc : List Str) (x : Str) : (uadd acc x).length ≤ acc.length + 1 := by
  unfold uadd
  split
  · omega
  · simp
theorem ustep_len (acc : List Str) (q : Nd) : (ustep acc q).length ≤ acc.length + 1 := by
  unfold ustep
  split
  · exact uadd_len _ _
  · omega
theorem unames_take {l : List Nd} {i : Nat} {q : Nd} (h : l[i]? = some q) : unames (l.take (i + 1)) = ustep (unames (l.take i)) q := by
  unfold unames
  rw [List.take_add_one, h]
  show List.foldl ustep [] (List.take i l ++ [q]) = _
  rw [List.foldl_append]
  rfl
theorem unames_len (l : List Nd) : (unames l).length ≤ l.length := by
  have key : ∀ (l : List Nd) (acc : List Str), (l.foldl ustep acc).length ≤ acc.length + l.length := by
    intro l
    induction l with
    | nil => intro acc; simp
    | cons q r ih =>
      intro acc
      have h1 := ih (ustep acc q)
      have h2 := ustep_len acc q
      simp only [List.foldl_cons, List.length_cons]
      omega
  have := key l []
  simpa [unames] using this
def strsDa (xs : List Str) : Da := .tup (xs.map Da.str)
theorem isA_strs {H : Hp} : ∀ xs : List Str, IsA H (xs.map V.str) (xs.map Da.str)
  | [] => .nil
  | x :: r => .cons (.str x) (isA_strs r)
theorem isA_ints {H : Hp} : ∀ xs : List Int, IsA H (xs.map V.int) (xs.map Da.int)
  | [] => .nil
  | x :: r => .cons (.int x) (isA_ints r)
theorem ints_of {H : Hp} : ∀ {vs : List V} {xs : List Int}, IsA H vs (xs.map Da.int) → vs = xs.map V.int
  | _, [], h => by cases h; rfl
  | _, x :: r, h => by
    cases h with
    | cons a b => cases a; rw [ints_of b]; rfl
theorem IsA.snoc_inv {H : Hp} : ∀ {ws : List V} {ds : List Da} {d : Da}, IsA H ws (ds ++ [d]) → ∃ ws0 w, ws = ws0 ++ [w] ∧ IsA H ws0 ds ∧ Is H w d
  | _, [], d, h => by
    cases h with
    | cons a b => cases b; exact ⟨[], _, rfl, .nil, a⟩
  | _, e :: r, d, h => by
    cases h with
    | @cons v vs _ _ a b =>
      obtain ⟨ws0, w, rfl, h1, h2⟩ := IsA.snoc_inv (ds := r) b
      exact ⟨v :: ws0, w, rfl, .cons a h1, h2⟩
theorem IsA.rev {H : Hp} : ∀ {ws : List V} {ds : List Da}, IsA H ws ds → IsA H ws.reverse ds.reverse
  | _, _, .nil => .nil
  | _, _, .cons a b => by
    rw [List.reverse_cons, List.reverse_cons]
    exact (IsA.rev b).app (.cons a .nil)
theorem ndAll_ge : ∀ st : List Nd, st.length ≤ (ndAll st).length
  | [] => Nat.zero_le _
  | q :: r => by
    have := ndAll_ge r
    have e : ndAll (q :: r) = q.2.nod q.1 ++ ndAll r := rfl
    rw [e, nod_eq, List.length_append, List.length_cons, List.length_cons]
    omega
def keyT (x : Str) : Key × V := (Sum.inr x, .bl true)
theorem put_keyT (us : List Str) (x : Str) : putK (us.map keyT) (Sum.inr x) (.bl true) = (uadd us x).map keyT := by
  have e1 : ((us.map keyT).any fun kv => decide (kv.1 = (Sum.inr x : Key))) = decide (x ∈ us) := by
    induction us with
    | nil => rfl
    | cons y r ih =>
      rw [List.map_cons, List.any_cons, ih]
      have e2 : decide ((keyT y).1 = (Sum.inr x : Key)) = decide (y = x) := by
        show decide ((Sum.inr y : Key) = Sum.inr x) = _
        exact key_rr y x
      rw [e2]
      by_cases h : y = x
      · subst h; simp
      · have h' : ¬ x = y := fun z => h z.symm
        simp [h, h']
  unfold putK uadd
  rw [e1]
  by_cases h : x ∈ us
  · rw [if_pos h, if_pos (decide_eq_true h), List.map_map]
    refine List.map_congr_left fun y _ => ?_
    show (if (keyT y).1 = (Sum.inr x : Key) then ((keyT y).1, V.bl true) else keyT y) = keyT y
    split <;> rfl
  · rw [if_neg h, if_neg (by simpa using h), List.map_append]
    rfl
end Nf

set_option Elab.async false
set_option linter.all false
set_option maxRecDepth 100000
namespace Nf
open PySem PySem.Spec PyProof.Rows L2
/-! ### list(zip(t, u)) of two tuples of one length -/
theorem zip_len_none : typeLookup (.type "zip") "__len__" = pure none := am_miss_of_fast (by decide +kernel)
theorem zip_hint_none : typeLookup (.type "zip") "__length_hint__" = pure none := am_miss_of_fast (by decide +kernel)
section
variable {prog : Program} {w : World} {A : Around} {E : Value → Shared → Prop} {s : Shared}
/-- next, while the pair given out before is still there -/
theorem zt_item {z TI TO T i j t u : Addr} {f : Bool} {oT : Obj} {k : Nat} {xs ys : Array Value} {x y : Value} {Q : Option Value → Shared → Prop} (D : ZipApart z TI TO i j t u)
    (hz : IsZipHeld s.heap z TI TO T f) (hT : s.heap.get? T = some oT) (hTI : IsPair s.heap TI (.ref i) (.ref j))
    (hi : s.heap.IsTupleIter i t k) (hj : s.heap.IsTupleIter j u k) (ht : s.heap.IsTuple t xs) (hu : s.heap.IsTuple u ys) (hx : xs[k]? = some x) (hy : ys[k]? = some y)
    (hQ : ∀ g, IsZipHeld g z TI TO T true → g.IsTupleIter i t (k + 1) → g.IsTupleIter j u (k + 1) → IsPair g s.heap.objs.size x y → g.objs.size = s.heap.objs.size + 1 →
      (∀ c o, c ≠ z → c ≠ i → c ≠ j → s.heap.get? c = some o → g.get? c = some o) → Q (some (.ref s.heap.objs.size)) { s with heap := g }) :
    wpAny (model prog w) A (pyNext (.ref z)) Q E s := by
  have ty : s.TypeIs (.ref z) "zip" := ⟨_, hz, rfl⟩
  unfold pyNext
  refine wpAny_bind (wpAny_attempt ?_)
  refine wpAny_callSpecial?_slot (name := Str.ofString "__next__") ty F.slot_zip_next ?_
  refine wpAny_call_entry F.slot_zip_next ty F.entry_zip_next ?_ (F.args_zip_next_1 _)
  show wpAny _ _ (field (.ref z) 2 >>= _) _ _ s
  refine wpAny_bind (wpAny_field hz rfl (x := .bool false) rfl ?_)
  show wpAny _ _ (field (.ref z) 3 >>= _) _ _ s
  refine wpAny_bind (wpAny_field hz rfl (x := .ref TI) rfl (wpAny_bind (wpAny_seqItems hTI rfl ?_)))
  show wpAny _ _ (Builtin.SmallTypes.ownedTupleIsFree (.ref z) >>= _) _ _ s
  refine wpAny_bind (wpAny_tupleHeld_zip hz hT fun g1 z1 s1 => ?_)
  simp only [Bool.false_eq_true, if_false]
  refine wpAny_bind ?_
  rw [← Array.forIn_toList]
  simp only [List.forIn_cons, List.forIn_nil]
  refine wpAny_bind (wpAny_bind (wpAny_holding ?_))
  show wpAny _ _ (Builtin.SmallTypes.nextOf (.ref i) >>= _) _ _ _
  refine wpAny_bind (wpAny_nextOf_tuple_item (s := { s with heap := g1 }) (hi.extBut s1.extBut D.i1z) (ht.extBut s1.extBut D.l1z) hx fun g2 i2 s2 => wpAny_pure (wpAny_pure ?_))
  refine wpAny_bind (wpAny_bind (wpAny_holding ?_))
  show wpAny _ _ (Builtin.SmallTypes.nextOf (.ref j) >>= _) _ _ _
  refine wpAny_bind (wpAny_nextOf_tuple_item (s := { s with heap := g2 }) ((hj.extBut s1.extBut D.i2z).extBut s2.extBut D.i12.symm) ((hu.extBut s1.extBut D.l2z).extBut s2.extBut D.l2i1) hy fun g3 j3 s3 => wpAny_pure (wpAny_pure (wpAny_pure ?_)))
  show wpAny _ _ (newTuple [x, y] >>= _) _ _ _
  refine wpAny_bind (wpAny_newTuple (wpAny_pure ⟨_, rfl, wpAny_pure ?_⟩))
  have sz : g3.objs.size = s.heap.objs.size := by rw [s3.1, s2.1, s1.1]
  have z3 : IsZipHeld g3 z TI TO T true := s3.extBut _ _ D.i2z.symm (s2.extBut _ _ D.i1z.symm z1)
  have kp : ∀ c o, c ≠ z → c ≠ i → c ≠ j → s.heap.get? c = some o → g3.get? c = some o := fun c o n1 n2 n3 e => s3.extBut _ _ n3 (s2.extBut _ _ n2 (s1.extBut _ _ n1 e))
  have i3 : g3.IsTupleIter i t (k + 1) := i2.extBut s3.extBut D.i12
  show Q (some (.ref g3.objs.size)) _
  have pr : IsPair (g3.push { cls := .type "tuple", data := .seq #[x, y] }) g3.objs.size x y := Heap.get?_push_size _ rfl
  have sz4 : (g3.push { cls := .type "tuple", data := .seq #[x, y] }).objs.size = g3.objs.size + 1 := Heap.size_push ..
  rw [sz] at pr sz4 ⊢
  exact hQ _ (Heap.get?_push_of_some _ z3) (i3.at fun o e => Heap.get?_push_of_some _ e) (j3.at fun o e => Heap.get?_push_of_some _ e) pr sz4
    fun c o n1 n2 n3 e => Heap.get?_push_of_some _ (kp c o n1 n2 n3 e)
theorem zt_end {z TI TO T i j t u : Addr} {f : Bool} {oT : Obj} {k : Nat} {xs : Array Value} {Q : Option Value → Shared → Prop} (hh : A.handled = none) (D : ZipApart z TI TO i j t u)
    (hz : IsZipHeld s.heap z TI TO T f) (hT : s.heap.get? T = some oT) (hTI : IsPair s.heap TI (.ref i) (.ref j))
    (hi : s.heap.IsTupleIter i t k) (ht : s.heap.IsTuple t xs) (hx : xs[k]? = none)
    (hQ : ∀ g, (∀ c o, c ≠ z → c ≠ i → c ≠ j → s.heap.get? c = some o → g.get? c = some o) → Q none { s with heap := g }) :
    wpAny (model prog w) A (pyNext (.ref z)) Q E s := by
  have ty : s.TypeIs (.ref z) "zip" := ⟨_, hz, rfl⟩
  unfold pyNext
  refine wpAny_bind (wpAny_attempt ?_)
  refine wpAny_callSpecial?_slot (name := Str.ofString "__next__") ty F.slot_zip_next ?_
  refine wpAny_call_entry F.slot_zip_next ty F.entry_zip_next ?_ (F.args_zip_next_1 _)
  show wpAny _ _ (field (.ref z) 2 >>= _) _ _ s
  refine wpAny_bind (wpAny_field hz rfl (x := .bool false) rfl ?_)
  show wpAny _ _ (field (.ref z) 3 >>= _) _ _ s
  refine wpAny_bind (wpAny_field hz rfl (x := .ref TI) rfl (wpAny_bind (wpAny_seqItems hTI rfl ?_)))
  show wpAny _ _ (Builtin.SmallTypes.ownedTupleIsFree (.ref z) >>= _) _ _ s
  refine wpAny_bind (wpAny_tupleHeld_zip hz hT fun g1 z1 s1 => ?_)
  simp only [Bool.false_eq_true, if_false]
  refine wpAny_bind ?_
  rw [← Array.forIn_toList]
  simp only [List.forIn_cons, List.forIn_nil]
  refine wpAny_bind (wpAny_bind (wpAny_holding ?_))
  show wpAny _ _ (Builtin.SmallTypes.nextOf (.ref i) >>= _) _ _ _
  refine wpAny_bind (wpAny_nextOf_tuple_end (s := { s with heap := g1 }) hh (hi.extBut s1.extBut D.i1z) (ht.extBut s1.extBut D.l1z) hx fun g2 e s2 he => ?_)
  obtain ⟨oz, hoz, hcz⟩ := he
  exact wpAny_bind (wpAny_isInstance (T := "StopIteration") (b := true) ⟨oz, hoz, hcz⟩ isSubtype_stop (wpAny_pure (hQ _ fun c o n1 n2 _ q => s2 _ _ n2 (s1.extBut _ _ n1 q))))
/-- the zip between two turns of the loop that fills the list S -/
structure ZSt (xs ys : Array Value) (z TI TO i j t u S : Addr) (k : Nat) (h : Heap) : Prop where
  st : (IsZip h z TI TO .none ∧ ∃ a b, IsPair h TO a b) ∨ ∃ T f oT, IsZipHeld h z TI TO T f ∧ h.get? T = some oT ∧ T ≠ z ∧ T ≠ i ∧ T ≠ j ∧ T ≠ S
  ti : IsPair h TI (.ref i) (.ref j)
  hi : h.IsTupleIter i t k
  hj : h.IsTupleIter j u k
  ht : h.IsTuple t xs
  hu : h.IsTuple u ys
structure ZG (xs ys : Array Value) (S : Addr) (h : Heap) (as : List Addr) : Prop where
  rise : as.Pairwise (· < ·)
  above : ∀ a ∈ as, S < a
  pairs : ∀ (m : Nat) (a : Addr), as[m]? = some a → ∃ x y, xs[m]? = some x ∧ ys[m]? = some y ∧ h.get? a = some { cls := .type "tuple", data := .seq #[x, y] }
theorem ZSt.up {xs ys : Array Value} {z TI TO i j t u S : Addr} {k : Nat} {h h' : Heap} (Z : ZSt xs ys z TI TO i j t u S k h) (nz : ∀ b ∈ [z, TI, TO, i, j, t, u], b ≠ S) (hk : ∀ b o, b ≠ S → h.get? b = some o → h'.get? b = some o) : ZSt xs ys z TI TO i j t u S k h' := by
  have n := fun b (hb : b ∈ [z, TI, TO, i, j, t, u]) => nz b hb
  refine ⟨?_, hk _ _ (n TI (by simp)) Z.ti, Z.hi.at fun o e => hk _ _ (n i (by simp)) e, Z.hj.at fun o e => hk _ _ (n j (by simp)) e, Z.ht.at fun o e => hk _ _ (n t (by simp)) e, Z.hu.at fun o e => hk _ _ (n u (by simp)) e⟩
  rcases Z.st with ⟨a, b, c, d⟩ | ⟨T, f, oT, a, b, c, d, e, g⟩
  · exact .inl ⟨hk _ _ (n z (by simp)) a, b, c, hk _ _ (n TO (by simp)) d⟩
  · exact .inr ⟨T, f, oT, hk _ _ (n z (by simp)) a, hk _ _ g b, c, d, e, g⟩
theorem zs_item {xs ys : Array Value} {z TI TO i j t u S : Addr} {k : Nat} {x y : Value} {Q : Option Value → Shared → Prop} (D : ZipApart z TI TO i j t u) (Z : ZSt xs ys z TI TO i j t u S k s.heap) (hS : S < s.heap.objs.size)
    (hlt : ∀ b ∈ [z, i, j], b < s.heap.objs.size) (hti : TI ≠ TO) (hx : xs[k]? = some x) (hy : ys[k]? = some y)
    (hQ : ∀ g, ZSt xs ys z TI TO i j t u S (k + 1) g → IsPair g s.heap.objs.size x y → g.objs.size = s.heap.objs.size + 1 →
      (∀ c o, c ≠ z → c ≠ TO → c ≠ i → c ≠ j → s.heap.get? c = some o → g.get? c = some o) → Q (some (.ref s.heap.objs.size)) { s with heap := g }) :
    wpAny (model prog w) A (pyNext (.ref z)) Q E s := by
  have nb : ∀ b ∈ [z, i, j], s.heap.objs.size ≠ b := fun b hb => Nat.ne_of_gt (hlt b hb)
  rcases Z.st with ⟨hz, a, b, hTO⟩ | ⟨T, f, oT, hz, hT, n1, n2, n3, n4⟩
  · refine RZ.pyNext_zipT_item D hz Z.ti hTO Z.hi Z.hj Z.ht Z.hu hx hy fun g z' TO' i' j' hT hsz hk => hQ g ⟨.inr ⟨_, false, _, z', hT, nb z (by simp), nb i (by simp), nb j (by simp), Nat.ne_of_gt hS⟩, ?_, i', j', ?_, ?_⟩ hT hsz hk
    · exact hk _ _ D.TIz D.TITO D.TIi1 D.TIi2 Z.ti
    · exact Z.ht.at fun o e => hk _ _ D.l1z D.l1TO D.l1i1 D.l1i2 e
    · exact Z.hu.at fun o e => hk _ _ D.l2z D.l2TO D.l2i1 D.l2i2 e
  · refine zt_item D hz hT Z.ti Z.hi Z.hj Z.ht Z.hu hx hy fun g z' i' j' hT' hsz hk => hQ g ⟨.inr ⟨T, true, oT, z', hk _ _ n1 n2 n3 hT, n1, n2, n3, n4⟩, ?_, i', j', ?_, ?_⟩ hT' hsz fun c o c1 _ c3 c4 e => hk c o c1 c3 c4 e
    · exact hk _ _ D.TIz D.TIi1 D.TIi2 Z.ti
    · exact Z.ht.at fun o e => hk _ _ D.l1z D.l1i1 D.l1i2 e
    · exact Z.hu.at fun o e => hk _ _ D.l2z D.l2i1 D.l2i2 e
theorem zs_end {xs ys : Array Value} {z TI TO i j t u S : Addr} {k : Nat} {Q : Option Value → Shared → Prop} (hh : A.handled = none) (D : ZipApart z TI TO i j t u) (Z : ZSt xs ys z TI TO i j t u S k s.heap) (hx : xs[k]? = none)
    (hQ : ∀ g, (∀ c o, c ≠ z → c ≠ TO → c ≠ i → c ≠ j → s.heap.get? c = some o → g.get? c = some o) → Q none { s with heap := g }) : wpAny (model prog w) A (pyNext (.ref z)) Q E s := by
  rcases Z.st with ⟨hz, a, b, hTO⟩ | ⟨T, f, oT, hz, hT, _⟩
  · exact RZ.pyNext_zipT_end hh D hz Z.ti hTO Z.hi Z.hj Z.ht Z.hu (.inl hx) hQ
  · exact zt_end hh D hz hT Z.ti Z.hi Z.ht hx fun g hk => hQ g fun c o c1 _ c3 c4 e => hk c o c1 c3 c4 e
end
section
variable {prog : Program} {w : World} {A : Around} {s : Shared} {R : Result → Shared → Prop} {xs ys : Array Value} {z TI TO i j t u S : Addr}
theorem zs_loop (hh : A.handled = none) (D : ZipApart z TI TO i j t u) (hlo : ∀ b ∈ [z, TI, TO, i, j, t, u], b < S) (hxy : xs.size = ys.size) (hn : xs.size ≤ sizeLine) (res : Value) {h0 : Heap}
    (hR : ∀ g tk acc c as, (∀ b o, b ≠ S → b ≠ z → b ≠ TO → b ≠ i → b ≠ j → h0.get? b = some o → g.get? b = some o) → g.get? S = some { cls := .type "list", dict := none, data := .seq acc c, slots := #[] } → as.length = xs.size → ZG xs ys S g as →
      acc.toList = as.map Value.ref → R (.ok (.ret res)) { s with heap := g, toks := tk }) :
    ∀ (n k : Nat) (h : Heap) (tk c : Nat) (acc : Array Value) (as : List Addr), xs.size - k = n → k ≤ xs.size → ZSt xs ys z TI TO i j t u S k h → (∀ b o, b ≠ S → b ≠ z → b ≠ TO → b ≠ i → b ≠ j → h0.get? b = some o → h.get? b = some o) →
      h.get? S = some { cls := .type "list", dict := none, data := .seq acc c, slots := #[] } → acc.toList = as.map Value.ref → as.length = k → ZG xs ys S h as →
      codeAny (model prog w) A (.builtin "list.extend.loop" ⟨[.ref S, .ref z, res], []⟩) R { s with heap := h, toks := tk } := by
  have nS : ∀ b ∈ [z, TI, TO, i, j, t, u], b ≠ S := fun b hb => Nat.ne_of_lt (hlo b hb)
  have zS := nS z (by simp)
  intro n
  induction n with
  | zero =>
    intro k h tk c acc as hnk hk Z kp hS hacc hal G
    refine codeAny_builtin F.entry_extend_loop ?_
    rw [Around.under_plainId F.plain_extend_loop _]
    show wpAny _ A.in1 (pyNext (.ref z) >>= _) _ _ _
    refine wpAny_bind (zs_end (s := { s with heap := h, toks := tk }) (A := A.in1) hh D Z (Array.getElem?_eq_none (by omega)) fun g hk' => ?_)
    have off : ∀ b o, S < b → h.get? b = some o → g.get? b = some o := fun b o hb e =>
      hk' b o (Nat.ne_of_gt (Nat.lt_trans (hlo z (by simp)) hb)) (Nat.ne_of_gt (Nat.lt_trans (hlo TO (by simp)) hb)) (Nat.ne_of_gt (Nat.lt_trans (hlo i (by simp)) hb)) (Nat.ne_of_gt (Nat.lt_trans (hlo j (by simp)) hb)) e
    refine wpAny_pure (hR g tk acc c as (fun b o b1 b2 b3 b4 b5 e => hk' b o b2 b3 b4 b5 (kp b o b1 b2 b3 b4 b5 e)) (hk' S _ (Ne.symm zS) (Ne.symm (nS TO (by simp))) (Ne.symm (nS i (by simp))) (Ne.symm (nS j (by simp))) hS) (by omega) ⟨G.rise, G.above, fun m a hm => ?_⟩ hacc)
    obtain ⟨x, y, e1, e2, e3⟩ := G.pairs m a hm
    exact ⟨x, y, e1, e2, off a _ (G.above a (List.mem_of_getElem? hm)) e3⟩
  | succ n ih =>
    intro k h tk c acc as hnk hk Z kp hS hacc hal G
    have hlt : k < xs.size := by omega
    have hx : xs[k]? = some xs[k] := by simp [hlt]
    have hy : ys[k]? = some (ys[k]'(by omega)) := by simp [show k < ys.size by omega]
    have hsz : acc.size = k := by rw [← Array.length_toList, hacc, List.length_map, hal]
    have hSl : S < h.objs.size := Heap.lt_size hS
    refine codeAny_builtin F.entry_extend_loop ?_
    rw [Around.under_plainId F.plain_extend_loop _]
    show wpAny _ A.in1 (pyNext (.ref z) >>= _) _ _ _
    refine wpAny_bind (zs_item (s := { s with heap := h, toks := tk }) D Z hSl (fun b hb => Nat.lt_trans (hlo b (by simp at hb ⊢; rcases hb with h | h | h <;> simp [h])) hSl) D.TITO hx hy fun g Z' hp hz hk' => ?_)
    dsimp only at hp hz hk' ⊢
    have hS' := hk' S _ (Ne.symm zS) (Ne.symm (nS TO (by simp))) (Ne.symm (nS i (by simp))) (Ne.symm (nS j (by simp))) hS
    have up : ∀ b o, b ≠ S → g.get? b = some o → (g.update S (Obj.mapSeq (·.push (Value.ref h.objs.size)))).get? b = some o := fun b o hb e => (Heap.get?_update_other _ _ (Ne.symm hb)).trans e
    have off : ∀ b o, S < b → h.get? b = some o → g.get? b = some o := fun b o hb e =>
      hk' b o (Nat.ne_of_gt (Nat.lt_trans (hlo z (by simp)) hb)) (Nat.ne_of_gt (Nat.lt_trans (hlo TO (by simp)) hb)) (Nat.ne_of_gt (Nat.lt_trans (hlo i (by simp)) hb)) (Nat.ne_of_gt (Nat.lt_trans (hlo j (by simp)) hb)) e
    have there : ∀ a ∈ as, a < h.objs.size := fun a ha => by
      obtain ⟨m, hm⟩ := List.mem_iff_getElem?.mp ha
      obtain ⟨_, _, _, _, e⟩ := G.pairs m a hm
      exact Heap.lt_size e
    show wpAny _ A.in1 (updateSeq S (·.push (Value.ref h.objs.size)) >>= _) _ _ _
    refine wpAny_bind ?_
    refine wpAny_updateSeq hS' rfl (wpAny_pure ⟨plainId_quiet F.plain_extend_loop _, ih (k + 1) _ tk _ (acc.push (Value.ref h.objs.size)) (as ++ [h.objs.size]) (by omega) hlt (Z'.up nS up)
      (fun b o b1 b2 b3 b4 b5 e => up b o b1 (hk' b o b2 b3 b4 b5 (kp b o b1 b2 b3 b4 b5 e))) (Heap.get?_update_self _ hS' rfl) (by rw [Array.toList_push, hacc, List.map_append]; rfl) (by rw [List.length_append, hal]; rfl) ⟨?_, ?_, ?_⟩⟩) (by rw [hsz]; omega) (by show (acc.push (Value.ref h.objs.size)).size ≤ sizeLine + 1; rw [Array.size_push, hsz]; omega)
    · refine List.pairwise_append.mpr ⟨G.rise, List.pairwise_singleton _ _, fun a ha b hb => ?_⟩
      exact List.mem_singleton.mp hb ▸ there a ha
    · intro a ha
      rcases List.mem_append.mp ha with ha | ha
      · exact G.above a ha
      · exact List.mem_singleton.mp ha ▸ hSl
    · intro m b hm
      by_cases h1 : m < as.length
      · rw [List.getElem?_append_left h1] at hm
        obtain ⟨x', y', e1, e2, e3⟩ := G.pairs m b hm
        have hb := G.above b (List.mem_of_getElem? hm)
        exact ⟨x', y', e1, e2, up b _ (Nat.ne_of_gt hb) (off b _ hb e3)⟩
      · rw [List.getElem?_append_right (by omega)] at hm
        have h2 : m - as.length = 0 := by
          have := (List.getElem?_eq_some_iff.mp hm).1
          simp at this
          omega
        have h3 : m = k := by omega
        rw [h2] at hm
        have hb : h.objs.size = b := by simpa using hm
        subst hb h3
        exact ⟨_, _, hx, hy, up _ _ (Nat.ne_of_gt hSl) hp⟩
theorem zs_extend (hh : A.handled = none) (D : ZipApart z TI TO i j t u) (hlo : ∀ b ∈ [z, TI, TO, i, j, t, u], b < S) (hxy : xs.size = ys.size) (hn : xs.size ≤ sizeLine) (res : Value) (c0 : Nat)
    (Z : ZSt xs ys z TI TO i j t u S 0 s.heap) (hz : IsZip s.heap z TI TO .none) (hS : s.heap.get? S = some { cls := .type "list", data := .seq #[] c0 })
    (hR : ∀ g tk acc c as, (∀ b o, b ≠ S → b ≠ z → b ≠ TO → b ≠ i → b ≠ j → s.heap.get? b = some o → g.get? b = some o) → g.get? S = some { cls := .type "list", dict := none, data := .seq acc c, slots := #[] } → as.length = xs.size → ZG xs ys S g as →
      acc.toList = as.map Value.ref → R (.ok (.ret res)) { s with heap := g, toks := tk }) :
    wpAny (model prog w) A.in1 (Builtin.List.listExtendWith (.ref S) (.ref z) res)
      (fun fin q => match fin with | .done f => R (.ok f) q | .again c => c.quiet = true ∧ codeAny (model prog w) A c R q) (fun e q => R (.error e) q) s := by
  have nS : ∀ b ∈ [z, TI, TO, i, j, t, u], b ≠ S := fun b hb => Nat.ne_of_lt (hlo b hb)
  have hSz : S ≠ z := Ne.symm (nS z (by simp))
  have ty : s.TypeIs (.ref z) "zip" := ⟨_, hz, rfl⟩
  unfold Builtin.List.listExtendWith
  refine wpAny_bind (wpAny_typeOf ty ?_)
  have b1 : Builtin.List.listSameRef (.ref S) (.ref z) = false := by simp [Builtin.List.listSameRef, hSz]
  have b2 : (Value.type "zip" == Value.type "list") = false := by decide
  have b3 : (Value.type "zip" == Value.type "tuple") = false := by decide
  simp only [b1, b2, b3, Bool.or_false, Bool.false_eq_true, if_false]
  refine wpAny_bind (wpAny_pyIter_zip hz ?_)
  refine wpAny_bind (wpAny_holding ?_)
  unfold Builtin.List.listLengthHint
  refine wpAny_bind (wpAny_specialOf ty zip_len_none ?_)
  show wpAny _ A.in1 (specialOf (Value.ref z) (Str.ofString "__length_hint__") >>= _) _ _ s
  refine wpAny_bind (wpAny_specialOf ty zip_hint_none (wpAny_pure ?_))
  show wpAny _ A.in1 (rule "list.extend.makes-room" >>= fun _ => Builtin.List.listTouch (.ref S) >>= fun _ =>
    again (.builtin "list.extend.loop" ⟨[.ref S, .ref z, res], []⟩)) _ _ s
  refine wpAny_bind (wpAny_rule (wpAny_bind ?_))
  show wpAny _ A.in1 (updateSeq S (·.push .none) >>= fun _ => updateSeq S (·.pop)) _ _ s
  refine wpAny_bind (wpAny_updateSeq hS rfl ?_)
  have S2 := Heap.get?_update_self (Obj.mapSeq (·.push Value.none)) hS rfl
  refine wpAny_updateSeq (hz := by seq_fits) S2 rfl ?_
  have S3 := Heap.get?_update_self (Obj.mapSeq (·.pop)) S2 rfl
  have oth : ∀ b o, b ≠ S → s.heap.get? b = some o → ((s.heap.update S (Obj.mapSeq (·.push Value.none))).update S (Obj.mapSeq (·.pop))).get? b = some o :=
    fun b o hb e => (Heap.get?_update_other _ _ (Ne.symm hb)).trans ((Heap.get?_update_other _ _ (Ne.symm hb)).trans e)
  refine wpAny_pure ⟨plainId_quiet F.plain_extend_loop _, zs_loop (h0 := s.heap) hh D hlo hxy hn res hR xs.size 0 _ s.toks _ #[] [] (Nat.sub_zero _) (Nat.zero_le _) (Z.up nS oth) (fun b o b1 _ _ _ _ e => oth b o b1 e) S3 rfl rfl ⟨List.Pairwise.nil, (fun _ ha => nomatch ha), (fun m a hm => by simp at hm)⟩⟩
theorem zs_init (hh : A.handled = none) (D : ZipApart z TI TO i j t u) (hlo : ∀ b ∈ [z, TI, TO, i, j, t, u], b < S) (hxy : xs.size = ys.size) (hn : xs.size ≤ sizeLine)
    (Z : ZSt xs ys z TI TO i j t u S 0 s.heap) (hz : IsZip s.heap z TI TO .none) (hS : s.heap.get? S = some { cls := .type "list", data := .seq #[] })
    (hR : ∀ g tk acc c as, (∀ b o, b ≠ S → b ≠ z → b ≠ TO → b ≠ i → b ≠ j → s.heap.get? b = some o → g.get? b = some o) → g.get? S = some { cls := .type "list", dict := none, data := .seq acc c, slots := #[] } → as.length = xs.size → ZG xs ys S g as →
      acc.toList = as.map Value.ref → R (.ok (.ret .none)) { s with heap := g, toks := tk }) :
    wpAny (model prog w) A.in1 (Builtin.«list.__init__» ⟨[.ref S, .ref z], []⟩)
      (fun fin q => match fin with | .done f => R (.ok f) q | .again c => c.quiet = true ∧ codeAny (model prog w) A c R q) (fun e q => R (.error e) q) s := by
  have nS : ∀ b ∈ [z, TI, TO, i, j, t, u], b ≠ S := fun b hb => Nat.ne_of_lt (hlo b hb)
  show wpAny _ A.in1 (do
    let old ← Builtin.List.listItems (.ref S)
    Builtin.List.listUpdate (.ref S) (fun _ => #[])
    letGo old.toList.reverse
    Builtin.List.listExtendWith (.ref S) (.ref z) .none) _ _ s
  refine wpAny_bind ?_
  unfold Builtin.List.listItems
  refine wpAny_bind (wpAny_seqItems hS rfl (wpAny_pure ?_))
  show wpAny _ A.in1 (updateSeq S (fun _ => #[]) >>= fun _ => letGo (#[] : Array Value).toList.reverse >>= fun _ => Builtin.List.listExtendWith (.ref S) (.ref z) .none) _ _ s
  refine wpAny_bind (wpAny_updateSeq hS rfl ?_)
  have S2 := Heap.get?_update_self (Obj.mapSeq (fun _ => (#[] : Array Value))) hS rfl
  have oth : ∀ b o, b ≠ S → s.heap.get? b = some o → (s.heap.update S (Obj.mapSeq (fun _ => (#[] : Array Value)))).get? b = some o := fun b o hb e => (Heap.get?_update_other _ _ (Ne.symm hb)).trans e
  refine wpAny_bind (wpAny_letGo ?_)
  exact zs_extend hh D hlo hxy hn .none _ (Z.up nS oth) (oth _ _ (nS z (by simp)) hz) S2 fun g tk acc c as hk hS' hl hG hacc => hR g tk acc c as (fun b o b1 b2 b3 b4 b5 e => hk b o b1 b2 b3 b4 b5 (oth b o b1 e)) hS' hl hG hacc
end
theorem call_list_zipT {prog : Program} {w : World} {A : Around} {E : Value → Shared → Prop} {s : Shared} {xs ys : Array Value} {z TI TO i j t u : Addr} {Q : Value → Shared → Prop}
    (hh : A.handled = none) (D : ZipApart z TI TO i j t u) (hlo : ∀ b ∈ [z, TI, TO, i, j, t, u], b < s.heap.objs.size) (hxy : xs.size = ys.size) (hn : xs.size ≤ sizeLine)
    (hz : IsZip s.heap z TI TO .none) (hti : IsPair s.heap TI (.ref i) (.ref j)) (hto : IsPair s.heap TO .none .none) (hi : s.heap.IsTupleIter i t 0) (hj : s.heap.IsTupleIter j u 0) (ht : s.heap.IsTuple t xs) (hu : s.heap.IsTuple u ys)
    (hQ : ∀ g tk acc c as, (∀ b o, b ≠ z → b ≠ TO → b ≠ i → b ≠ j → s.heap.get? b = some o → g.get? b = some o) → g.get? s.heap.objs.size = some { cls := .type "list", dict := none, data := .seq acc c, slots := #[] } → as.length = xs.size → ZG xs ys s.heap.objs.size g as →
      acc.toList = as.map Value.ref → Q (.ref s.heap.objs.size) { s with heap := g, toks := tk }) :
    wpAny (model prog w) A (call (.type "list") [.ref z]) Q E s := by
  refine callType_codes (Q₁ := fun obj q => obj = .ref s.heap.objs.size ∧ q = { s with heap := s.heap.push { cls := .type "list", data := .seq #[] } }) F.called_list (F.typeCall_list_1 _) F.entry_list_init
    (code_list_new _ ⟨rfl, rfl⟩) fun obj q hq => ?_
  obtain ⟨rfl, rfl⟩ := hq
  have hS : (s.heap.push { cls := .type "list", data := .seq #[] }).get? s.heap.objs.size = some { cls := .type "list", data := .seq #[] } := Heap.get?_push_size _ rfl
  have ps : ∀ b o, s.heap.get? b = some o → (s.heap.push { cls := .type "list", data := .seq #[] }).get? b = some o := fun b o e => Heap.get?_push_of_some _ e
  refine ⟨⟨_, hS, rfl⟩, F.args_list_init_2 _ _, ?_⟩
  refine zs_init (A := A.in1) hh D hlo hxy hn ⟨.inl ⟨ps _ _ hz, _, _, ps _ _ hto⟩, ps _ _ hti, hi.at fun o e => ps _ _ e, hj.at fun o e => ps _ _ e, ht.at fun o e => ps _ _ e, hu.at fun o e => ps _ _ e⟩ (ps _ _ hz) hS fun g tk acc c as hk hS' hl hG hacc => ?_
  exact ⟨rfl, hQ g tk acc c as (fun b o b2 b3 b4 b5 e => hk b o (Nat.ne_of_lt (Heap.lt_size e)) b2 b3 b4 b5 (ps _ _ e)) hS' hl hG hacc⟩
end Nf

set_option Elab.async false
set_option linter.all false
set_option maxRecDepth 100000
namespace Nf
open PySem PySem.Spec PyProof.Rows L2
/-! ### list(zip(t, u)): the rule -/
def putP : Hp → List Addr → List (V × V) → Hp
  | H, a :: as, p :: ps => putP (upd H a (.tup [p.1, p.2])) as ps
  | H, _, _ => H
theorem putP_off {b : Addr} : ∀ (as : List Addr) (ps : List (V × V)) (H : Hp), b ∉ as → putP H as ps b = H b
  | [], _, _, _ => rfl
  | _ :: _, [], _, _ => rfl
  | a :: as, p :: ps, H, h => by
    have h' : ¬ b = a ∧ b ∉ as := by simpa using h
    show putP (upd H a (.tup [p.1, p.2])) as ps b = H b
    rw [putP_off as ps _ h'.2, upd_ne h'.1]
abbrev PrR (H : Hp) (a : Addr) (p : V × V) : Prop := H a = some (.tup [p.1, p.2])
theorem putP_at : ∀ (as : List Addr) (ps : List (V × V)) (H : Hp), as.length = ps.length → as.Nodup → Paired (PrR (putP H as ps)) as ps
  | [], [], _, _, _ => .nil
  | [], _ :: _, _, h, _ => by cases h
  | _ :: _, [], _, h, _ => by cases h
  | a :: as, p :: ps, H, h, hn => by
    have hn' := List.nodup_cons.mp hn
    refine .cons ?_ (putP_at as ps (upd H a (.tup [p.1, p.2])) (Nat.succ.inj h) hn'.2)
    show putP (upd H a (.tup [p.1, p.2])) as ps a = some (.tup [p.1, p.2])
    rw [putP_off as ps _ hn'.1, upd_same]
theorem pairs_laid {X : Cx} {pins : List (Addr × Obj)} {σ : L2.St} {H : Hp} {s : Shared} {g : Heap} {tk : Nat} {xs ys : List V} {its1 its2 : List Value} {acc : Array Value} {c : Nat} {as : List Addr} {S : Addr}
    (I : Inv X pins σ H s) (hS0 : s.heap.objs.size ≤ S) (r1 : Vals xs its1) (r2 : Vals ys its2) (hl : xs.length = ys.length) (hz : xs.length ≤ sizeLine)
    (hk : ∀ b o, s.heap.get? b = some o → g.get? b = some o) (hS : g.get? S = some { cls := .type "list", dict := none, data := .seq acc c, slots := #[] })
    (has : as.length = its1.toArray.size) (G : ZG its1.toArray its2.toArray S g as) (hacc : acc.toList = as.map Value.ref) :
    ∃ H' : Hp, Same H H' ∧ H S = none ∧ H' S = some (.lst (as.map V.ref)) ∧ Paired (PrR H') as (xs.zip ys) ∧ Inv X pins σ H' { s with heap := g, toks := tk } := by
  have l1 : xs.length = its1.length := r1.length
  have l2 : ys.length = its2.length := r2.length
  have has' : as.length = xs.length := by rw [has, l1]; simp
  have lz : as.length = (xs.zip ys).length := by rw [List.length_zip]; omega
  have hSn : S ∉ as := fun z => Nat.lt_irrefl _ (G.above _ z)
  have nd : as.Nodup := List.Pairwise.imp (fun {a b} (h : a < b) => Nat.ne_of_lt h) G.rise
  have new : ∀ a ∈ as, H a = none := fun a ha => I.hok.fresh (Nat.le_trans hS0 (Nat.le_of_lt (G.above a ha)))
  have newS : H S = none := I.hok.fresh hS0
  have atP := putP_at as (xs.zip ys) (upd H S (.lst (as.map V.ref))) lz nd
  have off : ∀ b, b ∉ as → b ≠ S → putP (upd H S (.lst (as.map V.ref))) as (xs.zip ys) b = H b := fun b h1 h2 => by rw [putP_off as _ _ h1, upd_ne h2]
  have low : ∀ b o, s.heap.get? b = some o → b ∉ as ∧ b ≠ S := fun b o e =>
    ⟨fun z => absurd (Heap.lt_size e) (Nat.not_lt.mpr (Nat.le_trans hS0 (Nat.le_of_lt (G.above b z)))), Nat.ne_of_lt (Nat.lt_of_lt_of_le (Heap.lt_size e) hS0)⟩
  have kp : Same H (putP (upd H S (.lst (as.map V.ref))) as (xs.zip ys)) := fun b v e => by
    rw [off b (fun z => by rw [new b z] at e; cases e) (fun z => by rw [z, newS] at e; cases e)]
    exact e
  have eS : putP (upd H S (.lst (as.map V.ref))) as (xs.zip ys) S = some (.lst (as.map V.ref)) := by rw [putP_off as _ _ hSn, upd_same]
  refine ⟨putP (upd H S (.lst (as.map V.ref))) as (xs.zip ys), kp, newS, eS, atP, ?_⟩
  refine I.call' (ch := []) rfl ⟨fun b o q _ _ _ => hk b o q, fun b o q _ _ _ => ⟨o.slots, hk b o q⟩, fun b o q n _ => ?_, fun b o q _ => ⟨o, hk b o q⟩, fun b zs q => kp b _ q, fun b o v q => kp b _ q, fun b ps q => ⟨#[], by rw [kp b _ q]; simp⟩⟩
    (fun b v q => ?_) I.bare fun b z => by simp at z
  · obtain ⟨z1, z2⟩ := low b o q
    rw [off b z1 z2]
    exact n
  · by_cases hb : b ∈ as
    · obtain ⟨m, pk, e1, e2, e3⟩ := LiI.paired_ix atP hb
      have e3' : putP (upd H S (.lst (as.map V.ref))) as (xs.zip ys) b = some (.tup [pk.1, pk.2]) := e3
      rw [e3'] at q
      cases q
      obtain ⟨x, y, f1, f2, f3⟩ := G.pairs m b e1
      rw [List.getElem?_zip_eq_some] at e2
      obtain ⟨u1, g1, ru1⟩ := r1.get e2.1
      obtain ⟨u2, g2, ru2⟩ := r2.get e2.2
      have x1 : u1 = x := by
        have := f1.symm.trans (show its1.toArray[m]? = some u1 by simpa using g1)
        exact (Option.some.inj this).symm
      have y1 : u2 = y := by
        have := f2.symm.trans (show its2.toArray[m]? = some u2 by simpa using g2)
        exact (Option.some.inj this).symm
      subst x1 y1
      exact ⟨by show 2 ≤ sizeLine; decide, [u1, u2], .cons ru1 (.cons ru2 .nil), ⟨_, f3, rfl, _, rfl⟩⟩
    · by_cases hb2 : b = S
      · rw [hb2] at q ⊢
        rw [eS] at q
        cases q
        refine ⟨by rw [List.length_map]; omega, acc.toList, c, by rw [hacc]; exact LiI.vals_refs as, ?_⟩
        rw [Array.toArray_toList]
        exact hS
      · rw [off b hb hb2] at q
        exact (I.hok b v q).stay (fun d w _ y => hk d w y) (fun d y => kp d _ y) fun d zs y => kp d _ y
def tListZip (K : PySem.W.Frag) (ta : TA) : TE := fun σ H Q => ta σ H fun vs H1 => ∃ a b xs ys, vs = [.ref a, .ref b] ∧ SqT K H1 a xs ∧ SqT K H1 b ys ∧ xs.length = ys.length ∧
  ∀ (H' : Hp) (p : Addr) (ts : List Addr), Same H1 H' → H1 p = none → H' p = some (.lst (ts.map V.ref)) → Paired (PrR H') ts (xs.zip ys) → Q (.ref p) H'
theorem pe_listZip {X : Cx} {e e2 : Expr} {ta : TA} {p p2 pos pos2 : Pos} (hc : X.calm = true) (hg : Gl X "list") (hm : X.mg "list" = none) (hg2 : Gl X "zip") (hm2 : X.mg "zip" = none) (ha : PA X [e, e2] ta)
    (hs2 : starEach [e, e2] X.env = (false, eval e X.env) :: starEach [e2] X.env := by rfl) (hpl : (backTo pos2 (starEach [e2] X.env)).any (·.1) = false := by rfl)
    (hs : starEach [.Call (.Name "zip" p2) [e, e2] [] pos2] X.env = (false, eval (.Call (.Name "zip" p2) [e, e2] [] pos2) X.env) :: starEach [] X.env := by rfl) :
    PE X (.Call (.Name "list" p) [.Call (.Name "zip" p2) [e, e2] [] pos2] [] pos) (tListZip X.K ta) := by
  refine ⟨fun pins s σ H Q I h => ?_⟩
  refine Call_ (ld_blt I hg hm boot_list (PyProof.Rows.callWith_type1 ?_ hs rfl))
  rw [hs]
  show wpAny _ _ (spliced ((false, eval (.Call (.Name "zip" p2) [e, e2] [] pos2) X.env) :: backTo pos (starEach [] X.env))) _ _ s
  refine Calls.spliced_cons ?_
  refine Call_ (ld_blt I hg2 hm2 PyProof.Rows.boot_zip (PyProof.Rows.callWith_type1 (thn (ha.run pos2 pins s σ H _ I h) fun us s1 ⟨vs, H1, I1, r1, q1⟩ => ?_) hs2 hpl))
  obtain ⟨a, b, xs, ys, ex, hqx, hqy, hl, q⟩ := q1
  subst ex
  obtain ⟨u1, u2, eu, ra, rb⟩ := vals2 r1
  subst eu
  obtain rfl : u1 = Value.ref a := ra
  obtain rfl : u2 = Value.ref b := rb
  obtain ⟨its, rv, t1, z1⟩ := I1.tuple hqx
  obtain ⟨its2, rv2, t2, z2⟩ := I1.tuple hqy
  have ha1 : a < s1.heap.objs.size := by obtain ⟨o, ho, _⟩ := id t1; exact Heap.lt_size ho
  have hb1 : b < s1.heap.objs.size := by obtain ⟨o, ho, _⟩ := id t2; exact Heap.lt_size ho
  refine RZ.call_zipT (show s1.heap.IsTuple a its.toArray from t1) (show s1.heap.IsTuple b its2.toArray from t2) fun h' hz hti hto hi hj hsz hk => ?_
  refine Calls.spliced_nil ?_
  have lo5 : ∀ m : Nat, m < 5 → s1.heap.objs.size + m < h'.objs.size := fun m hm => by rw [hsz]; exact Nat.add_lt_add_left hm _
  have szl : its.toArray.size = its2.toArray.size := by
    have := rv.length; have := rv2.length
    simp; omega
  refine call_list_zipT (s := { s1 with heap := h' }) (A := X.A) (I1.ok.hd hc) (PySem.W.ktu_apart s1.heap.objs.size a b ha1 hb1) (fun c hc' => ?_) szl (by have := rv.length; simp; omega) hz hti hto hi hj
    (Heap.IsTuple.at (show s1.heap.IsTuple a its.toArray from t1) fun o e => hk _ _ e) (Heap.IsTuple.at (show s1.heap.IsTuple b its2.toArray from t2) fun o e => hk _ _ e) fun g tk acc c as hk' hS hl' hG hacc => ?_
  · have e' : c = s1.heap.objs.size + 4 ∨ c = s1.heap.objs.size + 2 ∨ c = s1.heap.objs.size + 3 ∨ c = s1.heap.objs.size ∨ c = s1.heap.objs.size + 1 ∨ c = a ∨ c = b := by simpa using hc'
    rcases e' with z | z | z | z | z | z | z
    · exact z ▸ lo5 4 (by decide)
    · exact z ▸ lo5 2 (by decide)
    · exact z ▸ lo5 3 (by decide)
    · exact z ▸ lo5 0 (by decide)
    · exact z ▸ lo5 1 (by decide)
    · exact z ▸ Nat.lt_trans ha1 (lo5 0 (by decide))
    · exact z ▸ Nat.lt_trans hb1 (lo5 0 (by decide))
  · have hkk : ∀ b o, s1.heap.get? b = some o → g.get? b = some o := fun d o e =>
      have ld := Heap.lt_size e
      hk' d o (Nat.ne_of_lt (Nat.lt_add_right 4 ld)) (Nat.ne_of_lt (Nat.lt_add_right 3 ld)) (Nat.ne_of_lt ld) (Nat.ne_of_lt (Nat.lt_add_right 1 ld)) (hk d o e)
    obtain ⟨H', k1, k2, k3, k4, J⟩ := pairs_laid (tk := tk) I1 (show s1.heap.objs.size ≤ h'.objs.size by rw [hsz]; exact Nat.le_add_right _ _) rv rv2 hl z1 hkk hS hl' hG hacc
    exact ⟨.ref _, H', J, rfl, q H' _ as k1 k2 k3 k4⟩
end Nf

set_option Elab.async false
set_option linter.all false
set_option maxRecDepth 100000
namespace Sh
open PySem L2 Nf
/-! built-ins -/
def eF (f : List D → Option D) (t : Ad) : Ed := fun ρ => Mb (t ρ) fun ds => Mo (f ds)
def CallD (Γ : Gm) (r : List V → Hp → VK → Prop) (f : List D → Option D) : Prop := ∀ R H vs ds d, f ds = some d → Sm R H → FzA Γ.c R vs ds → Gives Γ R H d (r vs)
theorem CallR.or {X : Cx} {f : Value} {r r' : List V → Hp → VK → Prop} (h : CallR X f r) (h' : CallR X f r') : CallR X f (fun xs H Q => r xs H Q ∨ r' xs H Q) := by
  intro pins s σ H vs us Q I rv q
  rcases q with q | q
  · exact h pins s σ H vs us Q I rv q
  · exact h' pins s σ H vs us Q I rv q
section
variable {X : Cx} {Γ : Gm} {x : Str} {p pos : Pos} {e : Expr} {es : List Expr} {t : Ad} {id T : String} {r : List V → Hp → VK → Prop} {f : List D → Option D}
theorem eF_up {σ : L2.St} {H : Hp} {Q : VK} (hf : CallD Γ r f) (h : up Γ (eF f t) σ H Q) : upA Γ t σ H fun vs H1 => r vs H1 Q := by
  obtain ⟨R, ρ, n, rr, n', rp, e, q⟩ := h
  obtain ⟨ds, m, e1, e⟩ := Mb_some e
  obtain ⟨ee, rfl⟩ := Mo_some e
  exact ⟨R, ρ, n, ds, _, rp, e1, fun vs R1 H1 rp1 S1 z1 => hf R1 H1 vs ds rr ee rp1.hp.same z1 σ ρ _ Q rp1 fun w R3 H3 rp3 S3 z3 => q w R3 H3 rp3 (S1.trans S3) z3⟩
theorem d_callB (hc : CallR X (.builtin id) r) (hf : CallD Γ r f) (hg : Gl X x) (hm : X.mg x = none) (hv : bootBuiltins x = some (.builtin id)) (ha : DA X Γ (e :: es) t) (hn : x ≠ "__name__" := by decide) (hdb : (x == ("__debug__" : Str)) = false := by decide)
    (he : starEach (e :: es) X.env = (false, eval e X.env) :: starEach es X.env := by rfl) (hpl : (backTo pos (starEach es X.env)).any (·.1) = false := by rfl) : DE X Γ (.Call (.Name x p) (e :: es) [] pos) (eF f t) :=
  ⟨PE.wk (pe_callB hc hg hm hv ha.p hn hdb he hpl) fun σ H Q h => eF_up hf h⟩
theorem d_callT (hc : CallR X (.type T) r) (hf : CallD Γ r f) (hg : Gl X x) (hm : X.mg x = none) (hv : bootBuiltins x = some (.type T)) (ha : DA X Γ (e :: es) t) (hn : x ≠ "__name__" := by decide) (hdb : (x == ("__debug__" : Str)) = false := by decide)
    (he : starEach (e :: es) X.env = (false, eval e X.env) :: starEach es X.env := by rfl) (hpl : (backTo pos (starEach es X.env)).any (·.1) = false := by rfl) : DE X Γ (.Call (.Name x p) (e :: es) [] pos) (eF f t) :=
  ⟨PE.wk (pe_callTy hc hg hm hv ha.p hn hdb he hpl) fun σ H Q h => eF_up hf h⟩
theorem fzA1 {c : Cn} {R : Hp} {vs : List V} {d : D} (h : FzA c R vs [d]) : ∃ v, vs = [v] ∧ Fz c R v d := by
  cases h with | cons a b => cases b; exact ⟨_, rfl, a⟩
theorem fzA2 {c : Cn} {R : Hp} {vs : List V} {d e : D} (h : FzA c R vs [d, e]) : ∃ v u, vs = [v, u] ∧ Fz c R v d ∧ Fz c R u e := by
  cases h with | cons a b => cases b with | cons a' b' => cases b'; exact ⟨_, _, rfl, a, a'⟩
def f1 (g : D → Option D) : List D → Option D
  | [x] => g x
  | _ => none
def f2 (g : D → D → Option D) : List D → Option D
  | [x, y] => g x y
  | _ => none
theorem call1 {g : D → Option D} (h : ∀ R H v dx d, g dx = some d → Sm R H → Fz Γ.c R v dx → Gives Γ R H d (r [v])) : CallD Γ r (f1 g) := fun R H vs ds d e S z => by
  match ds, e with
  | [dx], e => obtain ⟨v, rfl, z1⟩ := fzA1 z; exact h R H v dx d e S z1
theorem call2 {g : D → D → Option D} (h : ∀ R H v u dx dy d, g dx dy = some d → Sm R H → Fz Γ.c R v dx → Fz Γ.c R u dy → Gives Γ R H d (r [v, u])) : CallD Γ r (f2 g) := fun R H vs ds d e S z => by
  match ds, e with
  | [dx, dy], e => obtain ⟨v, u, rfl, z1, z2⟩ := fzA2 z; exact h R H v u dx dy d e S z1 z2
def fLen : D → Option D
  | .tup ds => some (.int (ds.length : Nat))
  | .lst ds => some (.int (ds.length : Nat))
  | .str x => some (.int (x.length : Nat))
  | _ => none
theorem c_len (hK : X.K = Γ.c.K) : CallD Γ (fun xs H Q => ∃ x n, xs = [x] ∧ LenV X.K x H n ∧ Q (.int n) H) (f1 fLen) := call1 fun R H v dx d e S z => by
  cases z with
  | tup h l q => cases e; exact gives_c (.int _) fun Q qq => ⟨_, _, rfl, .inr ⟨_, hK ▸ S.sqT h, rfl⟩, by rw [q.len]; exact qq⟩
  | lst h l q => cases e; exact gives_c (.int _) fun Q qq => ⟨_, _, rfl, .inl ⟨_, SqL.of (S.l h), rfl⟩, by rw [q.len]; exact qq⟩
  | str y hy => cases e; exact gives_c (.int _) fun Q qq => ⟨_, _, rfl, ⟨hy, rfl⟩, qq⟩
  | _ => cases e
def fAbs : D → Option D
  | .int i => some (.int (if i < 0 then -i else i))
  | _ => none
theorem c_abs : CallD Γ (fun xs H Q => ∃ i, xs = [.int i] ∧ Q (.int (if i < 0 then -i else i)) H) (f1 fAbs) := call1 fun R H v dx d e S z => by
  cases z with
  | int i => cases e; exact gives_c (.int _) fun Q qq => ⟨i, rfl, qq⟩
  | _ => cases e
def fInt : D → Option D
  | .int i => some (.int i)
  | .bl k => some (.int (if k then 1 else 0))
  | _ => none
theorem c_int : CallD Γ (fun xs H Q => (∃ i, xs = [.int i] ∧ Q (.int i) H) ∨ ∃ k, xs = [.bl k] ∧ Q (.int (if k then 1 else 0)) H) (f1 fInt) := call1 fun R H v dx d e S z => by
  cases z with
  | int i => cases e; exact gives_c (.int _) fun Q qq => .inl ⟨i, rfl, qq⟩
  | bl k => cases e; exact gives_c (.int _) fun Q qq => .inr ⟨k, rfl, qq⟩
  | _ => cases e
def fStr : D → Option D
  | .int i => if i.natAbs.log2 < 1920 ∧ (toString i : Str).length ≤ sizeLine then some (.str (toString i)) else none
  | _ => none
theorem c_str : CallD Γ (fun xs H Q => ∃ i, xs = [.int i] ∧ i.natAbs.log2 < 1920 ∧ Q (.str (toString i)) H) (f1 fStr) := call1 fun R H v dx d e S z => by
  cases z with
  | int i =>
    obtain ⟨h, e⟩ := ite_some e
    cases e; exact gives_c (.str _ h.2) fun Q qq => ⟨i, rfl, h.1, qq⟩
  | _ => cases e
def fTuple : D → Option D
  | .tup ds => some (.tup ds)
  | .lst ds => some (.tup ds)
  | _ => none
theorem c_tuple (hK : X.K = Γ.c.K) : CallD Γ (fun xs H Q => ∃ p ys, xs = [.ref p] ∧ ((SqL X.K H p ys ∧ ∀ l, H l = none → Q (.ref l) (upd H l (.tup ys))) ∨ (SqT X.K H p ys ∧ Q (.ref p) H))) (f1 fTuple) := call1 fun R H v dx d e S z => by
  cases z with
  | tup h l q => cases e; exact gives_c (.tup h l q) fun Q qq => ⟨_, _, rfl, .inr ⟨hK ▸ S.sqT h, qq⟩⟩
  | lst h l q => cases e; exact gives_new (o := .tup _) (fun p R' e' S' => .tup (SqT.of e') l (q.mono S'.le)) fun Q qq => ⟨_, _, rfl, .inl ⟨SqL.of (S.l h), qq⟩⟩
  | _ => cases e
def fList : D → Option D
  | .tup ds => some (.lst ds)
  | .lst ds => some (.lst ds)
  | _ => none
theorem c_list (hK : X.K = Γ.c.K) : CallD Γ (fun xs H Q => ∃ p ys, xs = [.ref p] ∧ (SqL X.K H p ys ∨ SqT X.K H p ys) ∧ ∀ l, H l = none → Q (.ref l) (upd H l (.lst ys))) (f1 fList) := call1 fun R H v dx d e S z => by
  cases z with
  | tup h l q => cases e; exact gives_new (o := .lst _) (fun p R' e' S' => .lst e' l (q.mono S'.le)) fun Q qq => ⟨_, _, rfl, .inr (hK ▸ S.sqT h), qq⟩
  | lst h l q => cases e; exact gives_new (o := .lst _) (fun p R' e' S' => .lst e' l (q.mono S'.le)) fun Q qq => ⟨_, _, rfl, .inl (SqL.of (S.l h)), qq⟩
  | _ => cases e
/-- items that are truths, numbers -/
def bls : List D → Option (List Bool)
  | [] => some []
  | .bl b :: r => (bls r).map (b :: ·)
  | _ => none
def inz : List D → Option (List Int)
  | [] => some []
  | .int b :: r => (inz r).map (b :: ·)
  | _ => none
theorem bls_of {c : Cn} {R : Hp} : ∀ {vs : List V} {ds : List D} {bs : List Bool}, FzA c R vs ds → bls ds = some bs → vs = bs.map V.bl
  | _, _, _, .nil, e => by cases e; rfl
  | _, _, _, .cons h q, e => by
    cases h with
    | bl b =>
      obtain ⟨bs, e1, rfl⟩ := Option.map_eq_some_iff.mp (show (bls _).map (b :: ·) = _ from e)
      rw [bls_of q e1]; rfl
    | _ => cases e
theorem inz_of {c : Cn} {R : Hp} : ∀ {vs : List V} {ds : List D} {bs : List Int}, FzA c R vs ds → inz ds = some bs → vs = bs.map V.int
  | _, _, _, .nil, e => by cases e; rfl
  | _, _, _, .cons h q, e => by
    cases h with
    | int b =>
      obtain ⟨bs, e1, rfl⟩ := Option.map_eq_some_iff.mp (show (inz _).map (b :: ·) = _ from e)
      rw [inz_of q e1]; rfl
    | _ => cases e
def fAll : D → Option D
  | .lst ds => (bls ds).map fun bs => .bl (bs.all _root_.id)
  | _ => none
def fAny : D → Option D
  | .lst ds => (bls ds).map fun bs => .bl (bs.any _root_.id)
  | _ => none
def fSum : D → Option D
  | .lst ds => (inz ds).map fun bs => .int bs.sum
  | _ => none
theorem c_all : CallD Γ (rAll X.K) (f1 fAll) := call1 fun R H v dx d e S z => by
  cases z with
  | lst h l q =>
    obtain ⟨bs, e1, rfl⟩ := Option.map_eq_some_iff.mp e
    have hx := bls_of q e1
    subst hx
    exact gives_c (.bl _) fun Q qq => ⟨_, bs, rfl, SqL.of (S.l h), qq⟩
  | _ => cases e
theorem c_any : CallD Γ (rAny X.K) (f1 fAny) := call1 fun R H v dx d e S z => by
  cases z with
  | lst h l q =>
    obtain ⟨bs, e1, rfl⟩ := Option.map_eq_some_iff.mp e
    have hx := bls_of q e1
    subst hx
    exact gives_c (.bl _) fun Q qq => ⟨_, bs, rfl, SqL.of (S.l h), qq⟩
  | _ => cases e
theorem c_sum : CallD Γ (rSum X.K) (f1 fSum) := call1 fun R H v dx d e S z => by
  cases z with
  | lst h l q =>
    obtain ⟨bs, e1, rfl⟩ := Option.map_eq_some_iff.mp e
    have hx := inz_of q e1
    subst hx
    exact gives_c (.int _) fun Q qq => ⟨_, bs, rfl, SqL.of (S.l h), qq⟩
  | _ => cases e
def fMax2 : D → D → Option D
  | .int i, .int j => some (.int (if j > i then j else i))
  | _, _ => none
def fMin2 : D → D → Option D
  | .int i, .int j => some (.int (if j < i then j else i))
  | _, _ => none
theorem c_max2 : CallD Γ (fun xs H Q => ∃ i j, xs = [.int i, .int j] ∧ Q (.int (if j > i then j else i)) H) (f2 fMax2) := call2 fun R H v u dx dy d e S z1 z2 => by
  cases z1 with
  | int i => cases z2 with
    | int j => cases e; exact gives_c (.int _) fun Q qq => ⟨i, j, rfl, qq⟩
    | _ => cases e
  | _ => cases e
theorem c_min2 : CallD Γ (fun xs H Q => ∃ i j, xs = [.int i, .int j] ∧ Q (.int (if j < i then j else i)) H) (f2 fMin2) := call2 fun R H v u dx dy d e S z1 z2 => by
  cases z1 with
  | int i => cases z2 with
    | int j => cases e; exact gives_c (.int _) fun Q qq => ⟨i, j, rfl, qq⟩
    | _ => cases e
  | _ => cases e
end
/-! isinstance -/
def D.tyn : D → Option String
  | .non => some "NoneType"
  | .bl _ => some "bool"
  | .int _ => some "int"
  | .str _ => some "str"
  | .tup _ => some "tuple"
  | .lst _ => some "list"
  | .dk _ _ => some "dict"
  | _ => none
theorem Fz.tyx {c : Cn} {R H : Hp} {v : V} {d : D} {t : String} (h : Fz c R v d) (S : Sm R H) (e : d.tyn = some t) : TyX c.K H v (.type t) := by
  cases h with
  | non => cases e; exact .base .non
  | bl b => cases e; exact .base (.bl b)
  | int i => cases e; exact .base (.int i)
  | str x _ => cases e; exact .base (.str x)
  | tup h _ _ =>
    cases e
    rcases S.sqT h with (h | ⟨o, h⟩) | ⟨o, its, n, h, hc, _⟩
    · exact .base (.tup h)
    · exact .fTuple h
    · exact .kTuple h hc
  | lst h _ _ => cases e; exact .base (.lst (S.l h))
  | dk h _ _ =>
    cases e
    rcases S.dk h with h | ⟨o, h⟩
    · exact .base (.dK h)
    · exact .fDict h
  | ins _ _ => cases e
  | deck => cases e
  | shr _ => cases e
def fIsi (T : String) (d : D) : Option D := d.tyn.bind fun t => (kitB t T).map .bl
section
variable {X : Cx} {Γ : Gm} {p pos : Pos} {e e2 : Expr} {ta : Ed} {T : String}
theorem d_isi (ha : DE X Γ e ta) (hty : PE X e2 (tC (.ty T))) (hg : Gl X "isinstance") (hm : X.mg "isinstance" = none) (hK : X.K = Γ.c.K := by rfl)
    (he : starEach [e, e2] X.env = (false, eval e X.env) :: starEach [e2] X.env := by rfl) (he2 : starEach [e2] X.env = (false, eval e2 X.env) :: starEach [] X.env := by rfl) (hpl : (backTo pos (starEach [e2] X.env)).any (·.1) = false := by rfl) :
    DE X Γ (.Call (.Name "isinstance" p) [e, e2] [] pos) (e1 (fIsi T) ta) :=
  ⟨PE.wk (pe_callB call_isi hg hm (by decide +kernel) (pa_cons ha.p (pa_cons hty pa_nil he2) he) (by decide) (by decide) he hpl) fun σ H Q ⟨R, ρ, n, r, n', rp, e, q⟩ => by
    obtain ⟨x, m, e1, e⟩ := Mb_some e
    obtain ⟨ee, rfl⟩ := Mo_some e
    obtain ⟨t, et, ek⟩ := Option.bind_eq_some_iff.mp ee
    obtain ⟨b, eb, rfl⟩ := Option.map_eq_some_iff.mp ek
    refine ⟨R, ρ, n, x, _, rp, e1, fun v R1 H1 rp1 S1 z1 => ?_⟩
    exact ⟨_, _, _, _, b, rfl, .ty T, hK ▸ z1.tyx rp1.hp.same et, kit_ty eb, q _ R1 H1 rp1 S1 (.bl b)⟩⟩
/-! xs.index(x) -/
def ixOf (x : D) : List D → Option Nat
  | [] => none
  | y :: r => if eqF y x = true then some 0 else (ixOf x r).map (· + 1)
def fIndex : D → D → Option D
  | .lst ds, x => if x.flt = true ∧ ds.all D.flt = true then (ixOf x ds).map fun j => .int (j : Nat) else none
  | _, _ => none
theorem ixOf_some {x : D} : ∀ {ds : List D} {j : Nat}, ixOf x ds = some j → (∃ z, ds[j]? = some z ∧ eqF z x = true) ∧ ∀ m z, m < j → ds[m]? = some z → eqF z x = false
  | [], j, e => by cases e
  | y :: r, j, e => by
    unfold ixOf at e
    by_cases h : eqF y x = true
    · rw [if_pos h] at e; cases e
      exact ⟨⟨y, rfl, h⟩, fun m z hm => absurd hm (Nat.not_lt_zero _)⟩
    · rw [if_neg h] at e
      obtain ⟨k, ek, rfl⟩ := Option.map_eq_some_iff.mp e
      obtain ⟨⟨z, h1, h2⟩, h3⟩ := ixOf_some ek
      refine ⟨⟨z, by simpa using h1, h2⟩, fun m z' hm hz => ?_⟩
      cases m with
      | zero => simp at hz; subst hz; simpa using h
      | succ m => exact h3 m z' (by omega) (by simpa using hz)
theorem d_index {o a : Expr} {to ta : Ed} {apos cpos : Pos} (ho : DE X Γ o to) (ha : DE X Γ a ta) (hbase : attributeBase o "index" X.env (eval o X.env) = eval o X.env := by rfl) (hline : (apos.endLine == cpos.line) = true := by rfl) (hs : starEach [a] X.env = (false, eval a X.env) :: starEach [] X.env := by rfl)
    (hfew : ((backTo cpos (starEach [a] X.env)).all (fun x => !x.1) && (backToKw cpos (keywordEach [] X.env)).all (fun x => x.1.isSome) && decide ([a].length + ([] : List Keyword).length + (if ([] : List Keyword).isEmpty then 0 else 1) < 30)) = true := by rfl) (hpl : (backTo cpos (starEach [] X.env)).any (·.1) = false := by rfl) :
    DE X Γ (.Call (.Attribute o "index" apos) [a] [] cpos) (Sh.e2 fIndex to ta) :=
  ⟨PE.wk (pe_bm PySem.F.plainAttrs_list PySem.F.slot_list_index PySem.F.type_list_index mt_index ho.p (pa_cons ha.p pa_nil hs) hbase hfew hline hs hpl) fun σ H Q ⟨R, ρ, n, r, n', rp, e, q⟩ => by
    obtain ⟨x, m, e1, e⟩ := Mb_some e
    obtain ⟨y, m2, e2, e⟩ := Mb_some e
    obtain ⟨ee, rfl⟩ := Mo_some e
    refine ⟨R, ρ, n, x, m, rp, e1, fun v R1 H1 rp1 S1 z1 => ?_⟩
    cases z1 with
    | @lst aa xs ds h l f =>
      obtain ⟨hf, ej⟩ := ite_some ee
      obtain ⟨j, ej2, rfl⟩ := Option.map_eq_some_iff.mp ej
      refine ⟨.inl ⟨rfl, _, SqL.of (rp1.hp.same.l h)⟩, R1, ρ, m, y, _, rp1, e2, fun u R2 H2 rp2 S2 z2 => ?_⟩
      have f2 := f.mono S2.le
      obtain ⟨⟨z, hz, hzx⟩, hno⟩ := ixOf_some ej2
      obtain ⟨zv, hzv, hzf⟩ := f2.get hz
      refine ⟨_, _, _, j, zv, rfl, rfl, SqL.of (rp2.hp.same.l (S2.same _ _ h)), by rw [z2.flt]; exact hf.1, by rw [f2.flt]; exact hf.2, hzv, by rw [hzf.eqF z2]; exact hzx, fun k z' hk hz' => ?_, q _ R2 H2 rp2 (S1.trans S2) (.int _)⟩
      obtain ⟨d', hd', hf'⟩ := f2.getV hz'
      rw [hf'.eqF z2]
      exact hno k d' hk hd'
    | _ => cases ee⟩
end
end Sh

set_option Elab.async false
set_option linter.all false
set_option maxRecDepth 100000
namespace Sh
open PySem L2 Nf
section
variable {Γ : Gm} {R R' H H' : Hp} {σ σ' : L2.St} {ρ : Sd} {n n' : Sx}
theorem Rp.along (h : Rp Γ R H σ ρ n) (g : Go Γ R H R' H') (k : HpOk Γ R' H' n') : Rp Γ R' H' σ ρ n' := by
  refine ⟨h.len, fun i d hi e => ?_, fun i d hi e => ?_, h.dist, k⟩
  · obtain ⟨v, h1, h2⟩ := h.fz i d hi e
    exact ⟨v, h1, h2.mono g.le⟩
  · obtain ⟨a, u, h1, h2, h3, h4, h5⟩ := h.own i d hi e
    have hd : a ∉ Γ.W.dom := fun m => h.hp.d0 a m h4
    have hn : R' a = none := by
      cases q : R' a with
      | none => rfl
      | some z =>
        rcases g.new a (by rw [q]; exact fun z => nomatch z) with z | z
        · exact absurd h3 z
        · rw [z] at h2; cases h2
    exact ⟨a, u, h1, g.keep a u h2 hd (by rw [hn]; exact fun j e => nomatch e), hn, h4, h5.mono g.le⟩
/-- p is no owned object's address -/
def NoO (Γ : Gm) (σ : L2.St) (ρ : Sd) (p : Addr) : Prop := ∀ i d, i ∈ Γ.ow → ρ[i]? = some (some d) → σ[i]? ≠ some (some (.ref p))
theorem Rp.noO {p : Addr} (h : Rp Γ R H σ ρ n) (hp : H p = none) : NoO Γ σ ρ p := fun i d hi e z => by
  obtain ⟨a, u, h1, h2, _⟩ := h.own i d hi e
  rw [z] at h1; cases h1
  rw [hp] at h2; cases h2
theorem Rp.mutO {p : Addr} {o : HO} (h : Rp Γ R H σ ρ n) (hR : R p = none) (h0 : Γ.H0 p = none) (hn : NoO Γ σ ρ p) : Rp Γ R (upd H p o) σ ρ n := by
  refine ⟨h.len, h.fz, fun i d hi e => ?_, h.dist, h.hp.mut hR h0⟩
  obtain ⟨a, u, h1, h2, h3, h4, h5⟩ := h.own i d hi e
  have : a ≠ p := fun z => hn i d hi e (z ▸ h1)
  exact ⟨a, u, h1, by rw [upd_ne this]; exact h2, h3, h4, h5⟩
theorem HpOk.freeze {p : Addr} {o : HO} (h : HpOk Γ R H n) (hp : H p = some o) (hR : R p = none) (h0 : Γ.H0 p = none) (ho : nm o) : HpOk Γ (upd R p o) H n := by
  have hpd : p ∉ Γ.W.dom := fun m => h.d0 p m h0
  refine ⟨⟨fun a u e nu => ?_, fun a j e => h.same.th a j (upd_nm ho e)⟩, fun a m => ?_, h.d0, h.wd, h.keep.up (same_new hR _), h.r0.trans (same_new hR _), fun a e => ?_, h.m.go (same_new hR _) (fun a j e => upd_nm ho e) fun a j u e q => q⟩
  · by_cases q : a = p
    · subst q; rw [upd_same] at e; cases e; exact hp
    · rw [upd_ne q] at e; exact h.same.st _ _ e nu
  · have : a ≠ p := fun q => hpd (q ▸ m)
    rw [upd_ne this]; exact h.dj a m
  · by_cases q : a = p
    · subst q; exact .inr h0
    · rw [upd_ne q] at e; exact h.new a e
theorem Rp.freeze {p : Addr} {o : HO} (h : Rp Γ R H σ ρ n) (hp : H p = some o) (hR : R p = none) (h0 : Γ.H0 p = none) (hn : NoO Γ σ ρ p) (ho : nm o := by first | assumption | exact nm_tup | exact nm_lst | exact nm_dK) : Rp Γ (upd R p o) H σ ρ n := by
  refine ⟨h.len, fun i d hi e => ?_, fun i d hi e => ?_, h.dist, h.hp.freeze hp hR h0 ho⟩
  · obtain ⟨v, h1, h2⟩ := h.fz i d hi e
    exact ⟨v, h1, h2.mono (same_new hR o).le⟩
  · obtain ⟨a, u, h1, h2, h3, h4, h5⟩ := h.own i d hi e
    have : a ≠ p := fun z => hn i d hi e (z ▸ h1)
    exact ⟨a, u, h1, h2, by rw [upd_ne this]; exact h3, h4, h5.mono (same_new hR o).le⟩
theorem Go.lay0 {p : Addr} {o : HO} (g : Go Γ R H R' H') (hp : H' p = none) : Go Γ R H R' (upd H' p o) :=
  ⟨g.same, g.keep.new hp, g.new, fun a e => g.nn a (by
    by_cases q : a = p
    · subst q; exact hp
    · rw [upd_ne q] at e; exact e)⟩
theorem Go.mutN {p : Addr} {o : HO} (g : Go Γ R H R' H') (hp : H p = none) : Go Γ R H R' (upd H' p o) :=
  ⟨g.same, g.keep.mutN hp, g.new, fun a e => by
    by_cases q : a = p
    · subst q; exact hp
    · rw [upd_ne q] at e; exact g.nn a e⟩
theorem Go.freeze {p : Addr} {o : HO} (g : Go Γ R H R' H') (hp : H p = none) (hR : R' p = none) : Go Γ R H (upd R' p o) H' :=
  ⟨g.same.trans (same_new hR _), g.keep.up (same_new hR _), fun a e => by
    by_cases q : a = p
    · subst q; exact .inr hp
    · rw [upd_ne q] at e; exact g.new a e, g.nn⟩
/-- slots forgotten -/
def wipeD (ρ : Sd) : List Nat → Sd
  | [] => ρ
  | v :: vs => (wipeD ρ vs).set v none
theorem wipeD_len (ρ : Sd) : ∀ vs : List Nat, (wipeD ρ vs).length = ρ.length
  | [] => rfl
  | v :: vs => by unfold wipeD; rw [List.length_set, wipeD_len ρ vs]
theorem wipeD_some {ρ : Sd} {i : Nat} {x : D} : ∀ {vs : List Nat}, (wipeD ρ vs)[i]? = some (some x) → ρ[i]? = some (some x) ∧ i ∉ vs
  | [], h => ⟨h, by simp⟩
  | v :: vs, h => by
    unfold wipeD at h
    by_cases hi : v = i
    · subst hi
      by_cases hv : v < (wipeD ρ vs).length
      · rw [List.getElem?_set_self hv] at h; cases h
      · rw [List.getElem?_eq_none (by rw [List.length_set]; omega)] at h; cases h
    · rw [List.getElem?_set_ne hi] at h
      obtain ⟨h1, h2⟩ := wipeD_some (vs := vs) h
      exact ⟨h1, fun z => (List.mem_cons.mp z).elim (fun e => hi e.symm) h2⟩
theorem wipe_out {σ : L2.St} {i : Nat} : ∀ {vs : List Nat}, i ∉ vs → (wipe σ vs)[i]? = σ[i]?
  | [], _ => rfl
  | v :: vs, h => by
    rw [List.mem_cons, not_or] at h
    unfold wipe
    rw [List.getElem?_set_ne (fun e => h.1 e.symm)]
    exact wipe_out h.2
theorem wipe_in {σ : L2.St} {i : Nat} : ∀ {vs : List Nat}, i ∈ vs → i < σ.length → (wipe σ vs)[i]? = some none
  | v :: vs, h, hl => by
    unfold wipe
    by_cases e : v = i
    · subst e; rw [List.getElem?_set_self (by rw [wipe_length]; exact hl)]
    · rw [List.getElem?_set_ne e]
      exact wipe_in ((List.mem_cons.mp h).resolve_left fun z => e z.symm) hl
theorem wipe_eq {vs : List Nat} (hl : σ'.length = σ.length) (h : ∀ i, i ∉ vs → σ'[i]? = σ[i]?) : wipe σ' vs = wipe σ vs := by
  apply List.ext_getElem?
  intro i
  by_cases m : i ∈ vs
  · by_cases hi : i < σ.length
    · rw [wipe_in m hi, wipe_in m (by omega)]
    · rw [List.getElem?_eq_none (by rw [wipe_length]; omega), List.getElem?_eq_none (by rw [wipe_length]; omega)]
  · rw [wipe_out m, wipe_out m, h i m]
theorem Rp.wipe (h : Rp Γ R H σ ρ n) (vs : List Nat) : Rp Γ R H (L2.wipe σ vs) (wipeD ρ vs) n := by
  refine ⟨by rw [wipe_length, wipeD_len]; exact h.len, fun i d hi e => ?_, fun i d hi e => ?_, fun i j a d1 d2 hi hj e1 e2 s1 s2 => ?_, h.hp⟩
  · obtain ⟨e1, e2⟩ := wipeD_some e
    rw [wipe_out e2]; exact h.fz i d hi e1
  · obtain ⟨e1, e2⟩ := wipeD_some e
    rw [wipe_out e2]; exact h.own i d hi e1
  · obtain ⟨f1, f2⟩ := wipeD_some e1
    obtain ⟨g1, g2⟩ := wipeD_some e2
    rw [wipe_out f2] at s1
    rw [wipe_out g2] at s2
    exact h.dist i j a d1 d2 hi hj f1 g1 s1 s2
end
/-! targets -/
abbrev Gd := D → Sd → Option Sd
def upG (Γ : Gm) (vs : List Nat) (g : Gd) : TG := fun v σ H Q => ∃ R ρ n d ρ', Rp Γ R H σ ρ n ∧ Fz Γ.c R v d ∧ g d ρ = some ρ' ∧ ∀ σ', σ'.length = σ.length → (∀ i, i ∉ vs → σ'[i]? = σ[i]?) → Rp Γ R H σ' ρ' n → Q σ' H
structure DG (X : Cx) (Γ : Gm) (e : Expr) (vs : List Nat) (g : Gd) : Prop where
  p : PG X e (upG Γ vs g)
def upGs (Γ : Gm) (vs : List Nat) (g : List D → Sd → Option Sd) : TGs := fun v σ H Q => ∃ R ρ n d ρ', Rp Γ R H σ ρ n ∧ FzA Γ.c R v d ∧ g d ρ = some ρ' ∧ ∀ σ', σ'.length = σ.length → (∀ i, i ∉ vs → σ'[i]? = σ[i]?) → Rp Γ R H σ' ρ' n → Q σ' H
structure DGs (X : Cx) (Γ : Gm) (es : List Expr) (k : Nat) (vs : List Nat) (g : List D → Sd → Option Sd) : Prop where
  p : PGs X es (upGs Γ vs g)
  len : ∀ ds ρ ρ', g ds ρ = some ρ' → ds.length = k
theorem PG.wk {X : Cx} {e : Expr} {t t' : TG} (h : PG X e t) (k : ∀ v σ H Q, t' v σ H Q → t v σ H Q) : PG X e t' := ⟨fun pins s σ H v u Q I r q => h.run pins s σ H v u Q I r (k v σ H Q q)⟩
theorem PGs.wk {X : Cx} {e : List Expr} {t t' : TGs} (h : PGs X e t) (k : ∀ v σ H Q, t' v σ H Q → t v σ H Q) : PGs X e t' := ⟨fun pins s σ H v u Q I r q => h.run pins s σ H v u Q I r (k v σ H Q q)⟩
section
variable {X : Cx} {Γ : Gm}
def gN (i : Nat) : Gd := fun d ρ => some (ρ.set i (some d))
theorem dg_name {i : Nat} {e : Expr} (h : PG X e (gName i)) (hi' : Γ.ow.contains i = false := by rfl) : DG X Γ e [i] (gN i) := have hi := nmem_of hi'; ⟨PG.wk h fun v σ H Q ⟨R, ρ, n, d, ρ', rp, z, e, q⟩ => by
  cases e
  exact q _ (List.length_set ..) (fun j hj => List.getElem?_set_ne (fun z => hj (by simp [z]))) (rp.set hi z)⟩
def gsN : List D → Sd → Option Sd
  | [], ρ => some ρ
  | _, _ => none
def gsC (g : Gd) (gs : List D → Sd → Option Sd) : List D → Sd → Option Sd
  | d :: ds, ρ => (g d ρ).bind (gs ds)
  | _, _ => none
theorem dgs_nil : DGs X Γ [] 0 [] gsN := ⟨PGs.wk pgs_nil (fun v σ H Q ⟨R, ρ, n, d, ρ', rp, z, e, q⟩ => by
  cases z with
  | nil => cases e; exact ⟨rfl, q σ rfl (fun _ _ => rfl) rp⟩
  | cons _ _ => cases e), fun ds ρ ρ' e => by cases ds with | nil => rfl | cons _ _ => cases e⟩
theorem dgs_cons {e : Expr} {es : List Expr} {k : Nat} {v1 v2 : List Nat} {g : Gd} {gs : List D → Sd → Option Sd} (h1 : DG X Γ e v1 g) (h2 : DGs X Γ es k v2 gs)
    (hs : (assignEach (e :: es) X.env).map (·.2) = assign e X.env :: (assignEach es X.env).map (·.2) := by rfl) : DGs X Γ (e :: es) (k + 1) (v1 ++ v2) (gsC g gs) := ⟨PGs.wk (pgs_cons h1.p h2.p hs) (fun v σ H Q ⟨R, ρ, n, d, ρ', rp, z, e, q⟩ => by
  cases z with
  | nil => cases e
  | cons za zb =>
    obtain ⟨ρ1, e1, e2⟩ := Option.bind_eq_some_iff.mp (show (g _ ρ).bind (gs _) = _ from e)
    refine ⟨_, _, rfl, R, ρ, n, _, ρ1, rp, za, e1, fun σ1 hl1 ha1 rp1 => ⟨R, ρ1, n, _, ρ', rp1, zb, e2, fun σ2 hl2 ha2 rp2 => q σ2 (hl2.trans hl1) (fun i hi => ?_) rp2⟩⟩
    rw [List.mem_append, not_or] at hi
    rw [ha2 i hi.2, ha1 i hi.1]), fun ds ρ ρ' e => by
  cases ds with
  | nil => cases e
  | cons d r =>
    obtain ⟨ρ1, e1, e2⟩ := Option.bind_eq_some_iff.mp (show (g d ρ).bind (gs r) = _ from e)
    rw [List.length_cons, h2.len _ _ _ e2]⟩
def gT (gs : List D → Sd → Option Sd) : Gd
  | .tup ds, ρ => gs ds ρ
  | _, _ => none
theorem dg_tup {es : List Expr} {kk k : Nat} {vs : List Nat} {gs : List D → Sd → Option Sd} {pos : Pos} (h : DGs X Γ es k vs gs) (hc : X.calm = true := by rfl) (hn : (assignEach es X.env).length = k := by rfl) (hst : (assignEach es X.env).findIdx? (·.1) = none := by rfl) (hK : X.K = Γ.c.K := by rfl) :
    DG X Γ (.Tuple es kk pos) vs (gT gs) := ⟨PG.wk (pg_tup hc h.p hn hst) fun v σ H Q ⟨R, ρ, n, d, ρ', rp, z, e, q⟩ => by
  cases z with
  | tup hh l f => exact ⟨_, _, rfl, hK ▸ rp.hp.same.sqT hh, by rw [f.len]; exact h.len _ _ _ e, R, ρ, n, _, ρ', rp, f, e, q⟩
  | _ => cases e⟩
end
/-! what is walked -/
def YOk (c : Cn) (R : Hp) (ds : List D) (Y : Nat → Hp → V → Hp → Prop) : Prop := ∀ i H x H' d, ds[i]? = some d → Y i H x H' →
  (H' = H ∧ Fz c R x d) ∨ ∃ T vs es, x = .ref T ∧ H T = none ∧ H' = upd H T (.tup vs) ∧ d = .tup es ∧ vs.length ≤ sizeLine ∧ FzA c R vs es
abbrev Id' := Sd → M (List D)
def upI (Γ : Gm) (ti : Id') : TI := fun σ H K => ∃ R ρ n ds n', Rp Γ R H σ ρ n ∧ ti ρ n = some (ds, n') ∧ ∀ J G Y R' H', Rp Γ R' H' σ ρ n' → Go Γ R H R' H' → Walk J ds.length G Y → (∀ H2, Sm R' H2 → G H2) → YOk Γ.c R' ds Y → ds.length ≤ sizeLine → K J H'
structure DI (X : Cx) (Γ : Gm) (tg iter : Expr) (ti : Id') : Prop where
  p : PI X tg iter (upI Γ ti)
theorem PI.wk {X : Cx} {tg e : Expr} {t t' : TI} (h : PI X tg e t) (k : ∀ σ H Q, t' σ H Q → t σ H Q) : PI X tg e t' := ⟨fun pins s σ H Q I q => h.run pins s σ H Q I (k σ H Q q)⟩
theorem PI.or {X : Cx} {tg e : Expr} {t t' : TI} (h : PI X tg e t) (h' : PI X tg e t') : PI X tg e fun σ H Q => t σ H Q ∨ t' σ H Q := ⟨fun pins s σ H Q I q => by
  rcases q with q | q
  · exact h.run pins s σ H Q I q
  · exact h'.run pins s σ H Q I q⟩
section
variable {X : Cx} {Γ : Gm} {tg e : Expr} {t : Ed}
def fItems : D → Option (List D)
  | .tup ds => szl ds.length ds
  | .lst ds => szl ds.length ds
  | .str z => szl z.length (z.cps.toList.map fun c => .str ⟨#[c]⟩)
  | _ => none
def iSeq (t : Ed) : Id' := fun ρ => Mb (t ρ) fun d => Mo (fItems d)
theorem di_seq (h : DE X Γ e t) (hK : X.K = Γ.c.K := by rfl) : DI X Γ tg e (iSeq t) := ⟨PI.wk (PI.or (pi_list h.p) (PI.or (pi_tup h.p) (pi_str h.p))) fun σ H Q ⟨R, ρ, n, ds, n', rp, e, q⟩ => by
  obtain ⟨d, m, e1, e⟩ := Mb_some e
  obtain ⟨ee, rfl⟩ := Mo_some e
  cases d with
  | lst ds0 =>
    obtain ⟨h1, rfl⟩ := szl_some ee
    refine .inl ⟨R, ρ, n, _, _, rp, e1, fun v R1 H1 rp1 S1 z1 => ?_⟩
    obtain ⟨a, xs, rfl, ha, l, f⟩ := z1.lst_inv
    refine ⟨a, rfl, ⟨_, SqL.of (rp1.hp.same.l ha)⟩, q _ _ _ R1 H1 rp1 S1 (f.len ▸ walk_list (xs := xs)) (fun H2 S => SqL.of (S.l ha)) (fun i H2 x H3 d hd hy => .inl ⟨hy.1, ?_⟩) h1⟩
    obtain ⟨d', h1, h2⟩ := f.getV hy.2
    rw [hd] at h1; cases h1; exact h2
  | tup ds0 =>
    obtain ⟨h1, rfl⟩ := szl_some ee
    refine .inr (.inl ⟨R, ρ, n, _, _, rp, e1, fun v R1 H1 rp1 S1 z1 => ?_⟩)
    obtain ⟨a, xs, rfl, ha, l, f⟩ := z1.tup_inv
    refine ⟨a, rfl, ⟨xs, hK ▸ rp1.hp.same.sqT ha⟩, q _ _ _ R1 H1 rp1 S1 (f.len ▸ walk_tup (xs := xs)) (fun H2 S => hK ▸ S.sqT ha) (fun i H2 x H3 d hd hy => .inl ⟨hy.1, ?_⟩) h1⟩
    obtain ⟨d', h1, h2⟩ := f.getV hy.2
    rw [hd] at h1; cases h1; exact h2
  | str z =>
    obtain ⟨h1, rfl⟩ := szl_some ee
    refine .inr (.inr ⟨R, ρ, n, _, _, rp, e1, fun v R1 H1 rp1 S1 z1 => ?_⟩)
    obtain ⟨rfl, _⟩ := z1.str_inv
    have el : (z.cps.toList.map fun c => D.str ⟨#[c]⟩).length = z.cps.size := by rw [List.length_map, Array.length_toList]
    refine ⟨z, rfl, q _ _ _ R1 H1 rp1 S1 (el ▸ walk_str (z := z)) (fun H2 S => True.intro) (fun i H2 x H3 d hd hy => .inl ⟨hy.1, ?_⟩) (by rw [el]; exact h1)⟩
    obtain ⟨c, h2, rfl⟩ := hy.2
    rw [List.getElem?_map, Array.getElem?_toList, h2] at hd
    cases hd
    exact .str _ (one_len c)
  | _ => cases ee⟩
/-! range -/
def rngD (lo : Int) (k : Nat) : List D := (List.range k).map fun (i : Nat) => .int (lo + i)
theorem rngD_len (lo : Int) (k : Nat) : (rngD lo k).length = k := by unfold rngD; rw [List.length_map, List.length_range]
theorem rngD_yok {c : Cn} {R : Hp} (lo : Int) (k : Nat) : YOk c R (rngD lo k) (YFn fun (i : Nat) => .int (lo + i)) := fun i H x H' d hd hy => .inl ⟨hy.1, by
  have hi : i < k := by
    have := (List.getElem?_eq_some_iff.mp hd).1
    rwa [rngD_len] at this
  unfold rngD at hd
  rw [List.getElem?_map, List.getElem?_range hi] at hd
  cases hd
  rw [hy.2]
  exact .int _⟩
end
end Sh

set_option Elab.async false
set_option linter.all false
set_option maxRecDepth 100000
namespace Nf
open PySem PySem.Spec PyProof.Rows L2
section
variable {prog : Program} {w : World} {A : Around} {E : Value → Shared → Prop} {s : Shared}
theorem zt_end2 {z TI TO T i j t u : Addr} {f : Bool} {oT : Obj} {k : Nat} {xs ys : Array Value} {x : Value} {Q : Option Value → Shared → Prop} (hh : A.handled = none) (D : ZipApart z TI TO i j t u)
    (hz : IsZipHeld s.heap z TI TO T f) (hT : s.heap.get? T = some oT) (hTI : IsPair s.heap TI (.ref i) (.ref j))
    (hi : s.heap.IsTupleIter i t k) (hj : s.heap.IsTupleIter j u k) (ht : s.heap.IsTuple t xs) (hu : s.heap.IsTuple u ys) (hx : xs[k]? = some x) (hy : ys[k]? = none)
    (hQ : ∀ g, (∀ c o, c ≠ z → c ≠ i → c ≠ j → s.heap.get? c = some o → g.get? c = some o) → Q none { s with heap := g }) :
    wpAny (model prog w) A (pyNext (.ref z)) Q E s := by
  have ty : s.TypeIs (.ref z) "zip" := ⟨_, hz, rfl⟩
  unfold pyNext
  refine wpAny_bind (wpAny_attempt ?_)
  refine wpAny_callSpecial?_slot (name := Str.ofString "__next__") ty F.slot_zip_next ?_
  refine wpAny_call_entry F.slot_zip_next ty F.entry_zip_next ?_ (F.args_zip_next_1 _)
  show wpAny _ _ (field (.ref z) 2 >>= _) _ _ s
  refine wpAny_bind (wpAny_field hz rfl (x := .bool false) rfl ?_)
  show wpAny _ _ (field (.ref z) 3 >>= _) _ _ s
  refine wpAny_bind (wpAny_field hz rfl (x := .ref TI) rfl (wpAny_bind (wpAny_seqItems hTI rfl ?_)))
  show wpAny _ _ (Builtin.SmallTypes.ownedTupleIsFree (.ref z) >>= _) _ _ s
  refine wpAny_bind (wpAny_tupleHeld_zip hz hT fun g1 z1 s1 => ?_)
  simp only [Bool.false_eq_true, if_false]
  refine wpAny_bind ?_
  rw [← Array.forIn_toList]
  simp only [List.forIn_cons, List.forIn_nil]
  refine wpAny_bind (wpAny_bind (wpAny_holding ?_))
  show wpAny _ _ (Builtin.SmallTypes.nextOf (.ref i) >>= _) _ _ _
  refine wpAny_bind (wpAny_nextOf_tuple_item (s := { s with heap := g1 }) (hi.extBut s1.extBut D.i1z) (ht.extBut s1.extBut D.l1z) hx fun g2 i2 s2 => wpAny_pure (wpAny_pure ?_))
  refine wpAny_bind (wpAny_bind (wpAny_holding ?_))
  show wpAny _ _ (Builtin.SmallTypes.nextOf (.ref j) >>= _) _ _ _
  refine wpAny_bind (wpAny_nextOf_tuple_end (s := { s with heap := g2 }) hh ((hj.extBut s1.extBut D.i2z).extBut s2.extBut D.i12.symm) ((hu.extBut s1.extBut D.l2z).extBut s2.extBut D.l2i1) hy fun g3 e s3 he => ?_)
  obtain ⟨oz, hoz, hcz⟩ := he
  exact wpAny_bind (wpAny_isInstance (T := "StopIteration") (b := true) ⟨oz, hoz, hcz⟩ isSubtype_stop (wpAny_pure (hQ _ fun c o n1 n2 n3 q => s3 _ _ n3 (s2.extBut _ _ n2 (s1.extBut _ _ n1 q)))))
theorem zs_end2 {xs ys : Array Value} {z TI TO i j t u S : Addr} {k : Nat} {Q : Option Value → Shared → Prop} (hh : A.handled = none) (D : ZipApart z TI TO i j t u) (Z : ZSt xs ys z TI TO i j t u S k s.heap) (hx : min xs.size ys.size ≤ k)
    (hQ : ∀ g, (∀ c o, c ≠ z → c ≠ TO → c ≠ i → c ≠ j → s.heap.get? c = some o → g.get? c = some o) → Q none { s with heap := g }) : wpAny (model prog w) A (pyNext (.ref z)) Q E s := by
  by_cases h1 : k < xs.size
  · have hy : ys[k]? = none := Array.getElem?_eq_none (by omega)
    have hx1 : xs[k]? = some xs[k] := by simp [h1]
    rcases Z.st with ⟨hz, a, b, hTO⟩ | ⟨T, f, oT, hz, hT, _⟩
    · exact RZ.pyNext_zipT_end hh D hz Z.ti hTO Z.hi Z.hj Z.ht Z.hu (.inr hy) hQ
    · exact zt_end2 hh D hz hT Z.ti Z.hi Z.hj Z.ht Z.hu hx1 hy fun g hk => hQ g fun c o c1 _ c3 c4 e => hk c o c1 c3 c4 e
  · exact zs_end hh D Z (Array.getElem?_eq_none (by omega)) hQ
end
section
variable {prog : Program} {w : World} {A : Around} {s : Shared} {R : Result → Shared → Prop} {xs ys : Array Value} {z TI TO i j t u S : Addr}
theorem zs_loop2 (hh : A.handled = none) (D : ZipApart z TI TO i j t u) (hlo : ∀ b ∈ [z, TI, TO, i, j, t, u], b < S) (hn : min xs.size ys.size ≤ sizeLine) (res : Value) {h0 : Heap}
    (hR : ∀ g tk acc c as, (∀ b o, b ≠ S → b ≠ z → b ≠ TO → b ≠ i → b ≠ j → h0.get? b = some o → g.get? b = some o) → g.get? S = some { cls := .type "list", dict := none, data := .seq acc c, slots := #[] } → as.length = min xs.size ys.size → ZG xs ys S g as →
      acc.toList = as.map Value.ref → R (.ok (.ret res)) { s with heap := g, toks := tk }) :
    ∀ (n k : Nat) (h : Heap) (tk c : Nat) (acc : Array Value) (as : List Addr), min xs.size ys.size - k = n → k ≤ min xs.size ys.size → ZSt xs ys z TI TO i j t u S k h → (∀ b o, b ≠ S → b ≠ z → b ≠ TO → b ≠ i → b ≠ j → h0.get? b = some o → h.get? b = some o) →
      h.get? S = some { cls := .type "list", dict := none, data := .seq acc c, slots := #[] } → acc.toList = as.map Value.ref → as.length = k → ZG xs ys S h as →
      codeAny (model prog w) A (.builtin "list.extend.loop" ⟨[.ref S, .ref z, res], []⟩) R { s with heap := h, toks := tk } := by
  have nS : ∀ b ∈ [z, TI, TO, i, j, t, u], b ≠ S := fun b hb => Nat.ne_of_lt (hlo b hb)
  have zS := nS z (by simp)
  intro n
  induction n with
  | zero =>
    intro k h tk c acc as hnk hk Z kp hS hacc hal G
    refine codeAny_builtin F.entry_extend_loop ?_
    rw [Around.under_plainId F.plain_extend_loop _]
    show wpAny _ A.in1 (pyNext (.ref z) >>= _) _ _ _
    refine wpAny_bind (zs_end2 (s := { s with heap := h, toks := tk }) (A := A.in1) hh D Z (by omega) fun g hk' => ?_)
    have off : ∀ b o, S < b → h.get? b = some o → g.get? b = some o := fun b o hb e =>
      hk' b o (Nat.ne_of_gt (Nat.lt_trans (hlo z (by simp)) hb)) (Nat.ne_of_gt (Nat.lt_trans (hlo TO (by simp)) hb)) (Nat.ne_of_gt (Nat.lt_trans (hlo i (by simp)) hb)) (Nat.ne_of_gt (Nat.lt_trans (hlo j (by simp)) hb)) e
    refine wpAny_pure (hR g tk acc c as (fun b o b1 b2 b3 b4 b5 e => hk' b o b2 b3 b4 b5 (kp b o b1 b2 b3 b4 b5 e)) (hk' S _ (Ne.symm zS) (Ne.symm (nS TO (by simp))) (Ne.symm (nS i (by simp))) (Ne.symm (nS j (by simp))) hS) (by omega) ⟨G.rise, G.above, fun m a hm => ?_⟩ hacc)
    obtain ⟨x, y, e1, e2, e3⟩ := G.pairs m a hm
    exact ⟨x, y, e1, e2, off a _ (G.above a (List.mem_of_getElem? hm)) e3⟩
  | succ n ih =>
    intro k h tk c acc as hnk hk Z kp hS hacc hal G
    have hlt : k < min xs.size ys.size := by omega
    have hx : xs[k]? = some (xs[k]'(by omega)) := by simp [show k < xs.size by omega]
    have hy : ys[k]? = some (ys[k]'(by omega)) := by simp [show k < ys.size by omega]
    have hsz : acc.size = k := by rw [← Array.length_toList, hacc, List.length_map, hal]
    have hSl : S < h.objs.size := Heap.lt_size hS
    refine codeAny_builtin F.entry_extend_loop ?_
    rw [Around.under_plainId F.plain_extend_loop _]
    show wpAny _ A.in1 (pyNext (.ref z) >>= _) _ _ _
    refine wpAny_bind (zs_item (s := { s with heap := h, toks := tk }) D Z hSl (fun b hb => Nat.lt_trans (hlo b (by simp at hb ⊢; rcases hb with h | h | h <;> simp [h])) hSl) D.TITO hx hy fun g Z' hp hz hk' => ?_)
    dsimp only at hp hz hk' ⊢
    have hS' := hk' S _ (Ne.symm zS) (Ne.symm (nS TO (by simp))) (Ne.symm (nS i (by simp))) (Ne.symm (nS j (by simp))) hS
    have up : ∀ b o, b ≠ S → g.get? b = some o → (g.update S (Obj.mapSeq (·.push (Value.ref h.objs.size)))).get? b = some o := fun b o hb e => (Heap.get?_update_other _ _ (Ne.symm hb)).trans e
    have off : ∀ b o, S < b → h.get? b = some o → g.get? b = some o := fun b o hb e =>
      hk' b o (Nat.ne_of_gt (Nat.lt_trans (hlo z (by simp)) hb)) (Nat.ne_of_gt (Nat.lt_trans (hlo TO (by simp)) hb)) (Nat.ne_of_gt (Nat.lt_trans (hlo i (by simp)) hb)) (Nat.ne_of_gt (Nat.lt_trans (hlo j (by simp)) hb)) e
    have there : ∀ a ∈ as, a < h.objs.size := fun a ha => by
      obtain ⟨m, hm⟩ := List.mem_iff_getElem?.mp ha
      obtain ⟨_, _, _, _, e⟩ := G.pairs m a hm
      exact Heap.lt_size e
    show wpAny _ A.in1 (updateSeq S (·.push (Value.ref h.objs.size)) >>= _) _ _ _
    refine wpAny_bind ?_
    refine wpAny_updateSeq hS' rfl (wpAny_pure ⟨plainId_quiet F.plain_extend_loop _, ih (k + 1) _ tk _ (acc.push (Value.ref h.objs.size)) (as ++ [h.objs.size]) (by omega) hlt (Z'.up nS up)
      (fun b o b1 b2 b3 b4 b5 e => up b o b1 (hk' b o b2 b3 b4 b5 (kp b o b1 b2 b3 b4 b5 e))) (Heap.get?_update_self _ hS' rfl) (by rw [Array.toList_push, hacc, List.map_append]; rfl) (by rw [List.length_append, hal]; rfl) ⟨?_, ?_, ?_⟩⟩) (by rw [hsz]; omega) (by show (acc.push (Value.ref h.objs.size)).size ≤ sizeLine + 1; rw [Array.size_push, hsz]; omega)
    · refine List.pairwise_append.mpr ⟨G.rise, List.pairwise_singleton _ _, fun a ha b hb => ?_⟩
      exact List.mem_singleton.mp hb ▸ there a ha
    · intro a ha
      rcases List.mem_append.mp ha with ha | ha
      · exact G.above a ha
      · exact List.mem_singleton.mp ha ▸ hSl
    · intro m b hm
      by_cases h1 : m < as.length
      · rw [List.getElem?_append_left h1] at hm
        obtain ⟨x', y', e1, e2, e3⟩ := G.pairs m b hm
        have hb := G.above b (List.mem_of_getElem? hm)
        exact ⟨x', y', e1, e2, up b _ (Nat.ne_of_gt hb) (off b _ hb e3)⟩
      · rw [List.getElem?_append_right (by omega)] at hm
        have h2 : m - as.length = 0 := by
          have := (List.getElem?_eq_some_iff.mp hm).1
          simp at this
          omega
        have h3 : m = k := by omega
        rw [h2] at hm
        have hb : h.objs.size = b := by simpa using hm
        subst hb h3
        exact ⟨_, _, hx, hy, up _ _ (Nat.ne_of_gt hSl) hp⟩
theorem zs_extend2 (hh : A.handled = none) (D : ZipApart z TI TO i j t u) (hlo : ∀ b ∈ [z, TI, TO, i, j, t, u], b < S) (hn : min xs.size ys.size ≤ sizeLine) (res : Value) (c0 : Nat)
    (Z : ZSt xs ys z TI TO i j t u S 0 s.heap) (hz : IsZip s.heap z TI TO .none) (hS : s.heap.get? S = some { cls := .type "list", data := .seq #[] c0 })
    (hR : ∀ g tk acc c as, (∀ b o, b ≠ S → b ≠ z → b ≠ TO → b ≠ i → b ≠ j → s.heap.get? b = some o → g.get? b = some o) → g.get? S = some { cls := .type "list", dict := none, data := .seq acc c, slots := #[] } → as.length = min xs.size ys.size → ZG xs ys S g as →
      acc.toList = as.map Value.ref → R (.ok (.ret res)) { s with heap := g, toks := tk }) :
    wpAny (model prog w) A.in1 (Builtin.List.listExtendWith (.ref S) (.ref z) res)
      (fun fin q => match fin with | .done f => R (.ok f) q | .again c => c.quiet = true ∧ codeAny (model prog w) A c R q) (fun e q => R (.error e) q) s := by
  have nS : ∀ b ∈ [z, TI, TO, i, j, t, u], b ≠ S := fun b hb => Nat.ne_of_lt (hlo b hb)
  have hSz : S ≠ z := Ne.symm (nS z (by simp))
  have ty : s.TypeIs (.ref z) "zip" := ⟨_, hz, rfl⟩
  unfold Builtin.List.listExtendWith
  refine wpAny_bind (wpAny_typeOf ty ?_)
  have b1 : Builtin.List.listSameRef (.ref S) (.ref z) = false := by simp [Builtin.List.listSameRef, hSz]
  have b2 : (Value.type "zip" == Value.type "list") = false := by decide
  have b3 : (Value.type "zip" == Value.type "tuple") = false := by decide
  simp only [b1, b2, b3, Bool.or_false, Bool.false_eq_true, if_false]
  refine wpAny_bind (wpAny_pyIter_zip hz ?_)
  refine wpAny_bind (wpAny_holding ?_)
  unfold Builtin.List.listLengthHint
  refine wpAny_bind (wpAny_specialOf ty zip_len_none ?_)
  show wpAny _ A.in1 (specialOf (Value.ref z) (Str.ofString "__length_hint__") >>= _) _ _ s
  refine wpAny_bind (wpAny_specialOf ty zip_hint_none (wpAny_pure ?_))
  show wpAny _ A.in1 (rule "list.extend.makes-room" >>= fun _ => Builtin.List.listTouch (.ref S) >>= fun _ =>
    again (.builtin "list.extend.loop" ⟨[.ref S, .ref z, res], []⟩)) _ _ s
  refine wpAny_bind (wpAny_rule (wpAny_bind ?_))
  show wpAny _ A.in1 (updateSeq S (·.push .none) >>= fun _ => updateSeq S (·.pop)) _ _ s
  refine wpAny_bind (wpAny_updateSeq hS rfl ?_)
  have S2 := Heap.get?_update_self (Obj.mapSeq (·.push Value.none)) hS rfl
  refine wpAny_updateSeq (hz := by seq_fits) S2 rfl ?_
  have S3 := Heap.get?_update_self (Obj.mapSeq (·.pop)) S2 rfl
  have oth : ∀ b o, b ≠ S → s.heap.get? b = some o → ((s.heap.update S (Obj.mapSeq (·.push Value.none))).update S (Obj.mapSeq (·.pop))).get? b = some o :=
    fun b o hb e => (Heap.get?_update_other _ _ (Ne.symm hb)).trans ((Heap.get?_update_other _ _ (Ne.symm hb)).trans e)
  refine wpAny_pure ⟨plainId_quiet F.plain_extend_loop _, zs_loop2 (h0 := s.heap) hh D hlo hn res hR (min xs.size ys.size) 0 _ s.toks _ #[] [] (Nat.sub_zero _) (Nat.zero_le _) (Z.up nS oth) (fun b o b1 _ _ _ _ e => oth b o b1 e) S3 rfl rfl ⟨List.Pairwise.nil, (fun _ ha => nomatch ha), (fun m a hm => by simp at hm)⟩⟩
theorem zs_init2 (hh : A.handled = none) (D : ZipApart z TI TO i j t u) (hlo : ∀ b ∈ [z, TI, TO, i, j, t, u], b < S) (hn : min xs.size ys.size ≤ sizeLine)
    (Z : ZSt xs ys z TI TO i j t u S 0 s.heap) (hz : IsZip s.heap z TI TO .none) (hS : s.heap.get? S = some { cls := .type "list", data := .seq #[] })
    (hR : ∀ g tk acc c as, (∀ b o, b ≠ S → b ≠ z → b ≠ TO → b ≠ i → b ≠ j → s.heap.get? b = some o → g.get? b = some o) → g.get? S = some { cls := .type "list", dict := none, data := .seq acc c, slots := #[] } → as.length = min xs.size ys.size → ZG xs ys S g as →
      acc.toList = as.map Value.ref → R (.ok (.ret .none)) { s with heap := g, toks := tk }) :
    wpAny (model prog w) A.in1 (Builtin.«list.__init__» ⟨[.ref S, .ref z], []⟩)
      (fun fin q => match fin with | .done f => R (.ok f) q | .again c => c.quiet = true ∧ codeAny (model prog w) A c R q) (fun e q => R (.error e) q) s := by
  have nS : ∀ b ∈ [z, TI, TO, i, j, t, u], b ≠ S := fun b hb => Nat.ne_of_lt (hlo b hb)
  show wpAny _ A.in1 (do
    let old ← Builtin.List.listItems (.ref S)
    Builtin.List.listUpdate (.ref S) (fun _ => #[])
    letGo old.toList.reverse
    Builtin.List.listExtendWith (.ref S) (.ref z) .none) _ _ s
  refine wpAny_bind ?_
  unfold Builtin.List.listItems
  refine wpAny_bind (wpAny_seqItems hS rfl (wpAny_pure ?_))
  show wpAny _ A.in1 (updateSeq S (fun _ => #[]) >>= fun _ => letGo (#[] : Array Value).toList.reverse >>= fun _ => Builtin.List.listExtendWith (.ref S) (.ref z) .none) _ _ s
  refine wpAny_bind (wpAny_updateSeq hS rfl ?_)
  have S2 := Heap.get?_update_self (Obj.mapSeq (fun _ => (#[] : Array Value))) hS rfl
  have oth : ∀ b o, b ≠ S → s.heap.get? b = some o → (s.heap.update S (Obj.mapSeq (fun _ => (#[] : Array Value)))).get? b = some o := fun b o hb e => (Heap.get?_update_other _ _ (Ne.symm hb)).trans e
  refine wpAny_bind (wpAny_letGo ?_)
  exact zs_extend2 hh D hlo hn .none _ (Z.up nS oth) (oth _ _ (nS z (by simp)) hz) S2 fun g tk acc c as hk hS' hl hG hacc => hR g tk acc c as (fun b o b1 b2 b3 b4 b5 e => hk b o b1 b2 b3 b4 b5 (oth b o b1 e)) hS' hl hG hacc
end
theorem call_list_zipT2 {prog : Program} {w : World} {A : Around} {E : Value → Shared → Prop} {s : Shared} {xs ys : Array Value} {z TI TO i j t u : Addr} {Q : Value → Shared → Prop}
    (hh : A.handled = none) (D : ZipApart z TI TO i j t u) (hlo : ∀ b ∈ [z, TI, TO, i, j, t, u], b < s.heap.objs.size) (hn : min xs.size ys.size ≤ sizeLine)
    (hz : IsZip s.heap z TI TO .none) (hti : IsPair s.heap TI (.ref i) (.ref j)) (hto : IsPair s.heap TO .none .none) (hi : s.heap.IsTupleIter i t 0) (hj : s.heap.IsTupleIter j u 0) (ht : s.heap.IsTuple t xs) (hu : s.heap.IsTuple u ys)
    (hQ : ∀ g tk acc c as, (∀ b o, b ≠ z → b ≠ TO → b ≠ i → b ≠ j → s.heap.get? b = some o → g.get? b = some o) → g.get? s.heap.objs.size = some { cls := .type "list", dict := none, data := .seq acc c, slots := #[] } → as.length = min xs.size ys.size → ZG xs ys s.heap.objs.size g as →
      acc.toList = as.map Value.ref → Q (.ref s.heap.objs.size) { s with heap := g, toks := tk }) :
    wpAny (model prog w) A (call (.type "list") [.ref z]) Q E s := by
  refine callType_codes (Q₁ := fun obj q => obj = .ref s.heap.objs.size ∧ q = { s with heap := s.heap.push { cls := .type "list", data := .seq #[] } }) F.called_list (F.typeCall_list_1 _) F.entry_list_init
    (code_list_new _ ⟨rfl, rfl⟩) fun obj q hq => ?_
  obtain ⟨rfl, rfl⟩ := hq
  have hS : (s.heap.push { cls := .type "list", data := .seq #[] }).get? s.heap.objs.size = some { cls := .type "list", data := .seq #[] } := Heap.get?_push_size _ rfl
  have ps : ∀ b o, s.heap.get? b = some o → (s.heap.push { cls := .type "list", data := .seq #[] }).get? b = some o := fun b o e => Heap.get?_push_of_some _ e
  refine ⟨⟨_, hS, rfl⟩, F.args_list_init_2 _ _, ?_⟩
  refine zs_init2 (A := A.in1) hh D hlo hn ⟨.inl ⟨ps _ _ hz, _, _, ps _ _ hto⟩, ps _ _ hti, hi.at fun o e => ps _ _ e, hj.at fun o e => ps _ _ e, ht.at fun o e => ps _ _ e, hu.at fun o e => ps _ _ e⟩ (ps _ _ hz) hS fun g tk acc c as hk hS' hl hG hacc => ?_
  exact ⟨rfl, hQ g tk acc c as (fun b o b2 b3 b4 b5 e => hk b o (Nat.ne_of_lt (Heap.lt_size e)) b2 b3 b4 b5 (ps _ _ e)) hS' hl hG hacc⟩
end Nf

set_option Elab.async false
set_option linter.all false
set_option maxRecDepth 100000
namespace Nf
open PySem PySem.Spec PyProof.Rows L2
theorem pairs_laid2 {X : Cx} {pins : List (Addr × Obj)} {σ : L2.St} {H : Hp} {s : Shared} {g : Heap} {tk : Nat} {xs ys : List V} {its1 its2 : List Value} {acc : Array Value} {c : Nat} {as : List Addr} {S : Addr}
    (I : Inv X pins σ H s) (hS0 : s.heap.objs.size ≤ S) (r1 : Vals xs its1) (r2 : Vals ys its2) (hz : xs.length ≤ sizeLine)
    (hk : ∀ b o, s.heap.get? b = some o → g.get? b = some o) (hS : g.get? S = some { cls := .type "list", dict := none, data := .seq acc c, slots := #[] })
    (has : as.length = min its1.toArray.size its2.toArray.size) (G : ZG its1.toArray its2.toArray S g as) (hacc : acc.toList = as.map Value.ref) :
    ∃ H' : Hp, Same H H' ∧ H S = none ∧ (∀ a ∈ as, H a = none) ∧ H' S = some (.lst (as.map V.ref)) ∧ Paired (PrR H') as (xs.zip ys) ∧ Inv X pins σ H' { s with heap := g, toks := tk } := by
  have l1 : xs.length = its1.length := r1.length
  have l2 : ys.length = its2.length := r2.length
  have has' : as.length = min xs.length ys.length := by rw [has, l1, l2]; simp
  have lz : as.length = (xs.zip ys).length := by rw [List.length_zip]; omega
  have hSn : S ∉ as := fun z => Nat.lt_irrefl _ (G.above _ z)
  have nd : as.Nodup := List.Pairwise.imp (fun {a b} (h : a < b) => Nat.ne_of_lt h) G.rise
  have new : ∀ a ∈ as, H a = none := fun a ha => I.hok.fresh (Nat.le_trans hS0 (Nat.le_of_lt (G.above a ha)))
  have newS : H S = none := I.hok.fresh hS0
  have atP := putP_at as (xs.zip ys) (upd H S (.lst (as.map V.ref))) lz nd
  have off : ∀ b, b ∉ as → b ≠ S → putP (upd H S (.lst (as.map V.ref))) as (xs.zip ys) b = H b := fun b h1 h2 => by rw [putP_off as _ _ h1, upd_ne h2]
  have low : ∀ b o, s.heap.get? b = some o → b ∉ as ∧ b ≠ S := fun b o e =>
    ⟨fun z => absurd (Heap.lt_size e) (Nat.not_lt.mpr (Nat.le_trans hS0 (Nat.le_of_lt (G.above b z)))), Nat.ne_of_lt (Nat.lt_of_lt_of_le (Heap.lt_size e) hS0)⟩
  have kp : Same H (putP (upd H S (.lst (as.map V.ref))) as (xs.zip ys)) := fun b v e => by
    rw [off b (fun z => by rw [new b z] at e; cases e) (fun z => by rw [z, newS] at e; cases e)]
    exact e
  have eS : putP (upd H S (.lst (as.map V.ref))) as (xs.zip ys) S = some (.lst (as.map V.ref)) := by rw [putP_off as _ _ hSn, upd_same]
  refine ⟨putP (upd H S (.lst (as.map V.ref))) as (xs.zip ys), kp, newS, new, eS, atP, ?_⟩
  refine I.call' (ch := []) rfl ⟨fun b o q _ _ _ => hk b o q, fun b o q _ _ _ => ⟨o.slots, hk b o q⟩, fun b o q n _ => ?_, fun b o q _ => ⟨o, hk b o q⟩, fun b zs q => kp b _ q, fun b o v q => kp b _ q, fun b ps q => ⟨#[], by rw [kp b _ q]; simp⟩⟩
    (fun b v q => ?_) I.bare fun b z => by simp at z
  · obtain ⟨z1, z2⟩ := low b o q
    rw [off b z1 z2]
    exact n
  · by_cases hb : b ∈ as
    · obtain ⟨m, pk, e1, e2, e3⟩ := LiI.paired_ix atP hb
      have e3' : putP (upd H S (.lst (as.map V.ref))) as (xs.zip ys) b = some (.tup [pk.1, pk.2]) := e3
      rw [e3'] at q
      cases q
      obtain ⟨x, y, f1, f2, f3⟩ := G.pairs m b e1
      rw [List.getElem?_zip_eq_some] at e2
      obtain ⟨u1, g1, ru1⟩ := r1.get e2.1
      obtain ⟨u2, g2, ru2⟩ := r2.get e2.2
      have x1 : u1 = x := by
        have := f1.symm.trans (show its1.toArray[m]? = some u1 by simpa using g1)
        exact (Option.some.inj this).symm
      have y1 : u2 = y := by
        have := f2.symm.trans (show its2.toArray[m]? = some u2 by simpa using g2)
        exact (Option.some.inj this).symm
      subst x1 y1
      exact ⟨by show 2 ≤ sizeLine; decide, [u1, u2], .cons ru1 (.cons ru2 .nil), ⟨_, f3, rfl, _, rfl⟩⟩
    · by_cases hb2 : b = S
      · rw [hb2] at q ⊢
        rw [eS] at q
        cases q
        refine ⟨by rw [List.length_map]; omega, acc.toList, c, by rw [hacc]; exact LiI.vals_refs as, ?_⟩
        rw [Array.toArray_toList]
        exact hS
      · rw [off b hb hb2] at q
        exact (I.hok b v q).stay (fun d w _ y => hk d w y) (fun d y => kp d _ y) fun d zs y => kp d _ y
def tListZip2 (K : PySem.W.Frag) (ta : TA) : TE := fun σ H Q => ta σ H fun vs H1 => ∃ a b xs ys, vs = [.ref a, .ref b] ∧ SqT K H1 a xs ∧ SqT K H1 b ys ∧
  ∀ (H' : Hp) (p : Addr) (ts : List Addr), Same H1 H' → H1 p = none → (∀ t ∈ ts, H1 t = none) → H' p = some (.lst (ts.map V.ref)) → Paired (PrR H') ts (xs.zip ys) → Q (.ref p) H'
theorem pe_listZip2 {X : Cx} {e e2 : Expr} {ta : TA} {p p2 pos pos2 : Pos} (hc : X.calm = true) (hg : Gl X "list") (hm : X.mg "list" = none) (hg2 : Gl X "zip") (hm2 : X.mg "zip" = none) (ha : PA X [e, e2] ta)
    (hs2 : starEach [e, e2] X.env = (false, eval e X.env) :: starEach [e2] X.env := by rfl) (hpl : (backTo pos2 (starEach [e2] X.env)).any (·.1) = false := by rfl)
    (hs : starEach [.Call (.Name "zip" p2) [e, e2] [] pos2] X.env = (false, eval (.Call (.Name "zip" p2) [e, e2] [] pos2) X.env) :: starEach [] X.env := by rfl) :
    PE X (.Call (.Name "list" p) [.Call (.Name "zip" p2) [e, e2] [] pos2] [] pos) (tListZip2 X.K ta) := by
  refine ⟨fun pins s σ H Q I h => ?_⟩
  refine Call_ (ld_blt I hg hm boot_list (PyProof.Rows.callWith_type1 ?_ hs rfl))
  rw [hs]
  show wpAny _ _ (spliced ((false, eval (.Call (.Name "zip" p2) [e, e2] [] pos2) X.env) :: backTo pos (starEach [] X.env))) _ _ s
  refine Calls.spliced_cons ?_
  refine Call_ (ld_blt I hg2 hm2 PyProof.Rows.boot_zip (PyProof.Rows.callWith_type1 (thn (ha.run pos2 pins s σ H _ I h) fun us s1 ⟨vs, H1, I1, r1, q1⟩ => ?_) hs2 hpl))
  obtain ⟨a, b, xs, ys, ex, hqx, hqy, q⟩ := q1
  subst ex
  obtain ⟨u1, u2, eu, ra, rb⟩ := vals2 r1
  subst eu
  obtain rfl : u1 = Value.ref a := ra
  obtain rfl : u2 = Value.ref b := rb
  obtain ⟨its, rv, t1, z1⟩ := I1.tuple hqx
  obtain ⟨its2, rv2, t2, z2⟩ := I1.tuple hqy
  have ha1 : a < s1.heap.objs.size := by obtain ⟨o, ho, _⟩ := id t1; exact Heap.lt_size ho
  have hb1 : b < s1.heap.objs.size := by obtain ⟨o, ho, _⟩ := id t2; exact Heap.lt_size ho
  refine RZ.call_zipT (show s1.heap.IsTuple a its.toArray from t1) (show s1.heap.IsTuple b its2.toArray from t2) fun h' hz hti hto hi hj hsz hk => ?_
  refine Calls.spliced_nil ?_
  have lo5 : ∀ m : Nat, m < 5 → s1.heap.objs.size + m < h'.objs.size := fun m hm => by rw [hsz]; exact Nat.add_lt_add_left hm _
  refine call_list_zipT2 (s := { s1 with heap := h' }) (A := X.A) (I1.ok.hd hc) (PySem.W.ktu_apart s1.heap.objs.size a b ha1 hb1) (fun c hc' => ?_) (by have := rv.length; simp; omega) hz hti hto hi hj
    (Heap.IsTuple.at (show s1.heap.IsTuple a its.toArray from t1) fun o e => hk _ _ e) (Heap.IsTuple.at (show s1.heap.IsTuple b its2.toArray from t2) fun o e => hk _ _ e) fun g tk acc c as hk' hS hl' hG hacc => ?_
  · have e' : c = s1.heap.objs.size + 4 ∨ c = s1.heap.objs.size + 2 ∨ c = s1.heap.objs.size + 3 ∨ c = s1.heap.objs.size ∨ c = s1.heap.objs.size + 1 ∨ c = a ∨ c = b := by simpa using hc'
    rcases e' with z | z | z | z | z | z | z
    · exact z ▸ lo5 4 (by decide)
    · exact z ▸ lo5 2 (by decide)
    · exact z ▸ lo5 3 (by decide)
    · exact z ▸ lo5 0 (by decide)
    · exact z ▸ lo5 1 (by decide)
    · exact z ▸ Nat.lt_trans ha1 (lo5 0 (by decide))
    · exact z ▸ Nat.lt_trans hb1 (lo5 0 (by decide))
  · have hkk : ∀ b o, s1.heap.get? b = some o → g.get? b = some o := fun d o e =>
      have ld := Heap.lt_size e
      hk' d o (Nat.ne_of_lt (Nat.lt_add_right 4 ld)) (Nat.ne_of_lt (Nat.lt_add_right 3 ld)) (Nat.ne_of_lt ld) (Nat.ne_of_lt (Nat.lt_add_right 1 ld)) (hk d o e)
    obtain ⟨H', k1, k2, k2', k3, k4, J⟩ := pairs_laid2 (tk := tk) I1 (show s1.heap.objs.size ≤ h'.objs.size by rw [hsz]; exact Nat.le_add_right _ _) rv rv2 z1 hkk hS hl' hG hacc
    exact ⟨.ref _, H', J, rfl, q H' _ as k1 k2 k2' k3 k4⟩
end Nf

set_option Elab.async false
set_option linter.all false
set_option maxRecDepth 100000
namespace Sh
open PySem L2 Nf
section
variable {X : Cx} {Γ : Gm} {tg : Expr} {p pos : Pos}
def fR1 : D → Option (List D)
  | .int j => if -1000000 ≤ j ∧ j ≤ 1000000 then some (rngD 0 j.toNat) else none
  | _ => none
def fR2 : D → D → Option (List D)
  | .int i, .int j => if -1000000 ≤ i ∧ i ≤ 1000000 ∧ -1000000 ≤ j ∧ j ≤ 1000000 then some (rngD i (j - i).toNat) else none
  | _, _ => none
def i1 (f : D → Option (List D)) (t : Ed) : Id' := fun ρ => Mb (t ρ) fun d => Mo (f d)
def i2 (f : D → D → Option (List D)) (t u : Ed) : Id' := fun ρ => Mb (t ρ) fun d => Mb (u ρ) fun e => Mo (f d e)
theorem di_r1 {a : Expr} {t : Ed} (ha : DE X Γ a t) (hg : Gl X "range") (hm : X.mg "range" = none) (hs : starEach [a] X.env = [(false, eval a X.env)] := by rfl) (hs1 : starEach [a] X.env = (false, eval a X.env) :: starEach [] X.env := by rfl) : DI X Γ tg (.Call (.Name "range" p) [a] [] pos) (i1 fR1 t) :=
  ⟨PI.wk (pi_range1 hg hm (pa_cons ha.p pa_nil hs1) hs) fun σ H Q ⟨R, ρ, n, ds, n', rp, e, q⟩ => by
    obtain ⟨d, m, e1, e⟩ := Mb_some e
    obtain ⟨ee, rfl⟩ := Mo_some e
    refine ⟨R, ρ, n, d, _, rp, e1, fun v R1 H1 rp1 S1 z1 => ?_⟩
    cases z1 with
    | int j =>
      obtain ⟨hj, e⟩ := ite_some ee
      cases e
      exact ⟨j, rfl, by omega, by omega, q _ _ _ R1 H1 rp1 S1 ((rngD_len 0 j.toNat).symm ▸ walk_range) (fun _ _ => True.intro) (rngD_yok 0 _) (by rw [rngD_len, PySem.sizeLine_eq]; omega)⟩
    | _ => cases ee⟩
theorem di_r2 {a b : Expr} {t u : Ed} (ha : DE X Γ a t) (hb : DE X Γ b u) (hg : Gl X "range") (hm : X.mg "range" = none) (hs : starEach [a, b] X.env = [(false, eval a X.env), (false, eval b X.env)] := by rfl) (hs2 : starEach [b] X.env = [(false, eval b X.env)] := by rfl)
    (h1 : starEach [a, b] X.env = (false, eval a X.env) :: starEach [b] X.env := by rfl) (h2 : starEach [b] X.env = (false, eval b X.env) :: starEach [] X.env := by rfl) : DI X Γ tg (.Call (.Name "range" p) [a, b] [] pos) (i2 fR2 t u) :=
  ⟨PI.wk (pi_range2 hg hm (pa_cons ha.p (pa_cons hb.p pa_nil h2) h1) hs hs2) fun σ H Q ⟨R, ρ, n, ds, n', rp, e, q⟩ => by
    obtain ⟨d, m, e1, e⟩ := Mb_some e
    obtain ⟨d2, m2, e2, e⟩ := Mb_some e
    obtain ⟨ee, rfl⟩ := Mo_some e
    refine ⟨R, ρ, n, d, _, rp, e1, fun v R1 H1 rp1 S1 z1 => ⟨R1, ρ, m, d2, _, rp1, e2, fun v2 R2 H2 rp2 S2 z2 => ?_⟩⟩
    cases z1 with
    | int i => cases z2 with
      | int j =>
        obtain ⟨hj, e⟩ := ite_some ee
        cases e
        exact ⟨i, j, rfl, ⟨by omega, by omega, by omega, by omega⟩, q _ _ _ R2 H2 rp2 (S1.trans S2) ((rngD_len i (j - i).toNat).symm ▸ walk_range) (fun _ _ => True.intro) (rngD_yok i _) (by rw [rngD_len, PySem.sizeLine_eq]; omega)⟩
      | _ => cases ee
    | _ => cases ee⟩
/-! zip, enumerate -/
def prs (xs ys : List D) : List D := (xs.zip ys).map fun q => .tup [q.1, q.2]
theorem prs_len (xs ys : List D) : (prs xs ys).length = min xs.length ys.length := by unfold prs; rw [List.length_map, List.length_zip]
theorem prs_yok {c : Cn} {R : Hp} {us vs : List V} {xs ys : List D} (h1 : FzA c R us xs) (h2 : FzA c R vs ys) : YOk c R (prs xs ys) (YPair (fun i => us[i]?) fun i => vs[i]?) := fun i H x H' d hd ⟨T, u, v, hx, hT, hH, hu, hv⟩ => by
  unfold prs at hd
  rw [List.getElem?_map] at hd
  obtain ⟨q, hq, rfl⟩ := Option.map_eq_some_iff.mp hd
  rw [List.getElem?_zip_eq_some] at hq
  obtain ⟨d1, g1, z1⟩ := h1.getV hu
  obtain ⟨d2, g2, z2⟩ := h2.getV hv
  rw [hq.1] at g1; cases g1
  rw [hq.2] at g2; cases g2
  exact .inr ⟨T, [u, v], _, hx, hT, hH, rfl, by show 2 ≤ sizeLine; decide, .cons z1 (.cons z2 .nil)⟩
def fZip : D → D → Option (List D)
  | .tup xs, .tup ys => szl xs.length (prs xs ys)
  | .lst xs, .lst ys => szl xs.length (prs xs ys)
  | _, _ => none
theorem di_zip {a b : Expr} {t u : Ed} {elts : List Expr} {kk : Nat} {tpos : Pos} (ha : DE X Γ a t) (hb : DE X Γ b u) (hg : Gl X "zip") (hm : X.mg "zip" = none) (hs : starEach [a, b] X.env = [(false, eval a X.env), (false, eval b X.env)] := by rfl) (hs2 : starEach [b] X.env = [(false, eval b X.env)] := by rfl)
    (h1 : starEach [a, b] X.env = (false, eval a X.env) :: starEach [b] X.env := by rfl) (h2 : starEach [b] X.env = (false, eval b X.env) :: starEach [] X.env := by rfl) (hpl : (backTo pos (starEach [b] X.env)).any (·.1) = false := by rfl) (hK : X.K = Γ.c.K := by rfl) : DI X Γ (.Tuple elts kk tpos) (.Call (.Name "zip" p) [a, b] [] pos) (i2 fZip t u) :=
  ⟨PI.wk (RZ.pi_zipA hg hm (pa_cons ha.p (pa_cons hb.p pa_nil h2) h1) h1 hpl) fun σ H Q ⟨R, ρ, n, ds, n', rp, e, q⟩ => by
    obtain ⟨d, m, e1, e⟩ := Mb_some e
    obtain ⟨d2, m2, e2, e⟩ := Mb_some e
    obtain ⟨ee, rfl⟩ := Mo_some e
    refine ⟨R, ρ, n, d, _, rp, e1, fun v R1 H1 rp1 S1 z1 => ⟨R1, ρ, m, d2, _, rp1, e2, fun v2 R2 H2 rp2 S2 z2 => ?_⟩⟩
    cases z1 with
    | @tup a1 us xs h1 l1 f1 => cases z2 with
      | @tup a2 vs ys h2 l2 f2 =>
        obtain ⟨hz, rfl⟩ := szl_some ee
        have g1 := S2.le.sqT h1
        refine ⟨a1, a2, us, vs, rfl, .inr ⟨hK ▸ rp2.hp.same.sqT g1, hK ▸ rp2.hp.same.sqT h2, q _ (fun H => SqT X.K H a1 us ∧ SqT X.K H a2 vs) _ R2 H2 rp2 (S1.trans S2) ?_ ?_ (prs_yok (f1.mono S2.le) f2) (by rw [prs_len]; omega)⟩⟩
        · rw [prs_len, ← f1.len, ← f2.len]; exact walk_zipT (xs := us) (ys := vs) rfl
        · exact fun H3 S => ⟨hK ▸ S.sqT g1, hK ▸ S.sqT h2⟩
      | _ => cases ee
    | @lst a1 us xs h1 l1 f1 => cases z2 with
      | @lst a2 vs ys h2 l2 f2 =>
        obtain ⟨hz, rfl⟩ := szl_some ee
        have g1 := S2.same _ _ h1
        refine ⟨a1, a2, us, vs, rfl, .inl ⟨SqL.of (rp2.hp.same.l g1), SqL.of (rp2.hp.same.l h2), q _ (fun H => SqL X.K H a1 us ∧ SqL X.K H a2 vs) _ R2 H2 rp2 (S1.trans S2) ?_ ?_ (prs_yok (f1.mono S2.le) f2) (by rw [prs_len]; omega)⟩⟩
        · rw [prs_len, ← f1.len, ← f2.len]; exact walk_zip (xs := us) (ys := vs) rfl
        · exact fun H3 S => ⟨SqL.of (S.l g1), SqL.of (S.l h2)⟩
      | _ => cases ee
    | _ => cases ee⟩
def enD (k : Nat) : List D → List D
  | [] => []
  | d :: r => .tup [.int (k : Nat), d] :: enD (k + 1) r
theorem enD_len : ∀ (k : Nat) (xs : List D), (enD k xs).length = xs.length
  | _, [] => rfl
  | k, _ :: r => by unfold enD; rw [List.length_cons, List.length_cons, enD_len (k + 1) r]
theorem enD_get : ∀ (k : Nat) (xs : List D) (i : Nat), (enD k xs)[i]? = xs[i]?.map fun d => .tup [.int ((k + i : Nat)), d]
  | _, [], i => by simp [enD]
  | k, d :: r, 0 => by simp [enD]
  | k, d :: r, i + 1 => by
    unfold enD
    rw [List.getElem?_cons_succ, List.getElem?_cons_succ, enD_get (k + 1) r i, show k + 1 + i = k + (i + 1) by omega]
theorem en_yok {c : Cn} {R : Hp} {us : List V} {xs : List D} (h1 : FzA c R us xs) : YOk c R (enD 0 xs) (YPair (fun i => some (.int (i : Nat))) fun i => us[i]?) := fun i H x H' d hd ⟨T, u, v, hx, hT, hH, hu, hv⟩ => by
  rw [enD_get] at hd
  obtain ⟨d2, hq, rfl⟩ := Option.map_eq_some_iff.mp hd
  obtain ⟨d1, g1, z1⟩ := h1.getV hv
  rw [hq] at g1; cases g1
  cases hu
  exact .inr ⟨T, [.int (i : Nat), v], _, hx, hT, hH, rfl, by show 2 ≤ sizeLine; decide, .cons (by rw [Nat.zero_add]; exact .int _) (.cons z1 .nil)⟩
def fEnum : D → Option (List D)
  | .tup xs => szl xs.length (enD 0 xs)
  | .lst xs => szl xs.length (enD 0 xs)
  | _ => none
theorem di_enum {a : Expr} {t : Ed} {elts : List Expr} {kk : Nat} {tpos : Pos} (ha : DE X Γ a t) (hg : Gl X "enumerate") (hm : X.mg "enumerate" = none) (hs : starEach [a] X.env = [(false, eval a X.env)] := by rfl)
    (h1 : starEach [a] X.env = (false, eval a X.env) :: starEach [] X.env := by rfl) (hK : X.K = Γ.c.K := by rfl) : DI X Γ (.Tuple elts kk tpos) (.Call (.Name "enumerate" p) [a] [] pos) (i1 fEnum t) :=
  ⟨PI.wk (PI.or (pi_enum hg hm (pa_cons ha.p pa_nil h1) hs) (pi_enumT hg hm (pa_cons ha.p pa_nil h1) hs)) fun σ H Q ⟨R, ρ, n, ds, n', rp, e, q⟩ => by
    obtain ⟨d, m, e1, e⟩ := Mb_some e
    obtain ⟨ee, rfl⟩ := Mo_some e
    cases d with
    | lst xs =>
      obtain ⟨hz, rfl⟩ := szl_some ee
      refine .inl ⟨R, ρ, n, _, _, rp, e1, fun v R1 H1 rp1 S1 z1 => ?_⟩
      obtain ⟨a, us, rfl, ha, l, f⟩ := z1.lst_inv
      refine ⟨a, us, rfl, SqL.of (rp1.hp.same.l ha), q _ (fun H3 => SqL X.K H3 a us) _ R1 H1 rp1 S1 ?_ (fun H3 S => SqL.of (S.l ha)) (en_yok f) (by rw [enD_len]; exact hz)⟩
      rw [enD_len, ← f.len]; exact walk_enum (xs := us)
    | tup xs =>
      obtain ⟨hz, rfl⟩ := szl_some ee
      refine .inr ⟨R, ρ, n, _, _, rp, e1, fun v R1 H1 rp1 S1 z1 => ?_⟩
      obtain ⟨a, us, rfl, ha, l, f⟩ := z1.tup_inv
      refine ⟨a, us, rfl, hK ▸ rp1.hp.same.sqT ha, q _ _ _ R1 H1 rp1 S1 ?_ (fun H3 S => hK ▸ S.sqT ha) (en_yok f) (by rw [enD_len]; exact hz)⟩
      rw [enD_len, ← f.len]; exact walk_enumT (xs := us)
    | _ => cases ee⟩
/-! list(zip(..)) of tuples -/
theorem HpOk.grow {R H H' : Hp} {n : Sx} {Γ : Gm} (h : HpOk Γ R H n) (S : Same H H') (N : List Addr) (hN : ∀ a ∈ N, H a = none) (hm : ∀ a ∈ N, ∀ j, H' a ≠ some (mrk j)) : HpOk Γ (fun a => if a ∈ N then H' a else R a) H' n ∧ Go Γ R H (fun a => if a ∈ N then H' a else R a) H' := by
  have key : Same R (fun a => if a ∈ N then H' a else R a) := fun a o e => by
    by_cases m : a ∈ N
    · have := h.same.free (hN a m)
      rw [this] at e; cases e
    · show (if a ∈ N then H' a else R a) = some o
      rw [if_neg m]; exact e
  have new : ∀ a, (fun a => if a ∈ N then H' a else R a) a ≠ none → R a ≠ none ∨ H a = none := fun a e => by
    by_cases m : a ∈ N
    · exact .inr (hN a m)
    · exact .inl (by have : (if a ∈ N then H' a else R a) ≠ none := e; rwa [if_neg m] at this)
  have mk : ∀ a j, (if a ∈ N then H' a else R a) = some (mrk j) → R a = some (mrk j) := fun a j e => by
    by_cases m : a ∈ N
    · rw [if_pos m] at e; exact absurd e (hm a m j)
    · rwa [if_neg m] at e
  refine ⟨⟨⟨fun a o e nu => ?_, fun a j e => ?_⟩, fun a m => ?_, h.d0, ?_, (h.keep.up key).same S, h.r0.trans key, fun a e => ?_, h.m.go key mk fun a j o _ q => S _ _ q⟩, ⟨key, KeepM.of (Keep.of_same S), new, fun a e => S.free e⟩⟩
  · have e' : (if a ∈ N then H' a else R a) = some o := e
    by_cases m : a ∈ N
    · rw [if_pos m] at e'; exact e'
    · rw [if_neg m] at e'; exact S _ _ (h.same.st _ _ e' nu)
  · exact fun z => h.same.th a j (mk a j e) (S.free z)
  · have : a ∉ N := fun z => Γ.W.there n.1 H h.wd a m (hN a z)
    show (if a ∈ N then H' a else R a) = none
    rw [if_neg this]; exact h.dj a m
  · refine Γ.W.only n.1 H _ h.wd fun a m => ?_
    cases e : H a with
    | none => exact absurd e (Γ.W.there n.1 H h.wd a m)
    | some o => exact S _ _ e
  · rcases new a e with z | z
    · exact h.new a z
    · exact .inr (h.nn z)
theorem paired_mem {α β : Type} {F G : α → β → Prop} : ∀ {l₁ : List α} {l₂ : List β}, Paired F l₁ l₂ → (∀ a ∈ l₁, ∀ b, F a b → G a b) → Paired G l₁ l₂
  | _, _, .nil, _ => .nil
  | _, _, .cons r t, f => .cons (f _ (by simp) _ r) (paired_mem t fun a ha => f a (by simp [ha]))
def fLZ : D → D → Option D
  | .tup xs, .tup ys => some (.lst (prs xs ys))
  | _, _ => none
theorem paired_ex {α β : Type} {F : α → β → Prop} : ∀ {l₁ : List α} {l₂ : List β}, Paired F l₁ l₂ → ∀ a ∈ l₁, ∃ b, F a b
  | _, _, .nil, a, m => by simp at m
  | _, _, .cons r t, a, m => by
    rcases List.mem_cons.mp m with rfl | m
    · exact ⟨_, r⟩
    · exact paired_ex t a m
theorem fz_pairs {c : Cn} {R : Hp} : ∀ {ts : List Addr} {us vs : List V} {xs ys : List D}, Paired (PrR R) ts (us.zip vs) → FzA c R us xs → FzA c R vs ys → FzA c R (ts.map V.ref) (prs xs ys)
  | _, [], _, _, _, h, .nil, _ => by cases h; exact .nil
  | _, _ :: _, [], _, _, h, .cons _ _, .nil => by cases h; exact .nil
  | _, u :: us, v :: vs, _, _, h, .cons a b, .cons a' b' => by
    cases h with
    | cons h1 h2 => exact .cons (.tup (SqT.of h1) (by show 2 ≤ sizeLine; decide) (.cons a (.cons a' .nil))) (fz_pairs h2 b b')
theorem d_lz {a b : Expr} {t u : Ed} {p2 pos2 : Pos} (ha : DE X Γ a t) (hb : DE X Γ b u) (hg : Gl X "list") (hm : X.mg "list" = none) (hg2 : Gl X "zip") (hm2 : X.mg "zip" = none) (hc : X.calm = true := by rfl)
    (h1 : starEach [a, b] X.env = (false, eval a X.env) :: starEach [b] X.env := by rfl) (h2 : starEach [b] X.env = (false, eval b X.env) :: starEach [] X.env := by rfl) (hpl : (backTo pos2 (starEach [b] X.env)).any (·.1) = false := by rfl)
    (hs : starEach [.Call (.Name "zip" p2) [a, b] [] pos2] X.env = (false, eval (.Call (.Name "zip" p2) [a, b] [] pos2) X.env) :: starEach [] X.env := by rfl) (hK : X.K = Γ.c.K := by rfl) :
    DE X Γ (.Call (.Name "list" p) [.Call (.Name "zip" p2) [a, b] [] pos2] [] pos) (e2 fLZ t u) :=
  ⟨PE.wk (pe_listZip2 hc hg hm hg2 hm2 (pa_cons ha.p (pa_cons hb.p pa_nil h2) h1) h1 hpl hs) fun σ H Q ⟨R, ρ, n, r, n', rp, e, q⟩ => by
    obtain ⟨d, m, e1, e⟩ := Mb_some e
    obtain ⟨d2, m2, e2, e⟩ := Mb_some e
    obtain ⟨ee, rfl⟩ := Mo_some e
    refine ⟨R, ρ, n, d, _, rp, e1, fun v R1 H1 rp1 S1 z1 => ⟨R1, ρ, m, d2, _, rp1, e2, fun v2 R2 H2 rp2 S2 z2 => ?_⟩⟩
    cases z1 with
    | @tup a1 us xs h1 l1 f1 => cases z2 with
      | @tup a2 vs ys h2 l2 f2 =>
        cases ee
        have f1' := f1.mono S2.le
        refine ⟨a1, a2, us, vs, rfl, hK ▸ rp2.hp.same.sqT (S2.le.sqT h1), hK ▸ rp2.hp.same.sqT h2, fun H3 l ts S3 hl0 hts0 hl3 hpp => ?_⟩
        obtain ⟨k, g⟩ := rp2.hp.grow S3 (l :: ts) (fun a ha => (List.mem_cons.mp ha).elim (fun z => z ▸ hl0) (hts0 a)) fun a ha j e => by
          rcases List.mem_cons.mp ha with rfl | ha
          · rw [hl3] at e; cases e
          · obtain ⟨b, hb⟩ := paired_ex hpp a ha
            rw [show H3 a = some (.tup [b.1, b.2]) from hb] at e; cases e
        have hl4 : (fun a => if a ∈ l :: ts then H3 a else R2 a) l = some (.lst (ts.map V.ref)) := by
          show (if l ∈ l :: ts then H3 l else R2 l) = _
          rw [if_pos (by simp)]; exact hl3
        have lt : (ts.map V.ref).length ≤ sizeLine := by
          rw [List.length_map, Paired.length hpp, List.length_zip]; omega
        refine q _ _ H3 (rp2.along g k) ((S1.trans S2).trans g) (.lst hl4 lt (fz_pairs ?_ (f1'.mono g.le) (f2.mono g.le)))
        refine paired_mem hpp fun t ht pr hp => ?_
        show (if t ∈ l :: ts then H3 t else R2 t) = _
        rw [if_pos (List.mem_cons_of_mem _ ht)]; exact hp
      | _ => cases ee
    | _ => cases ee⟩
end
end Sh

set_option Elab.async false
set_option linter.all false
set_option maxRecDepth 100000
namespace Sh
open PySem L2 Nf
/-! comprehensions -/
structure DTs (X : Cx) (Γ : Gm) (es : List Expr) (t : Td) : Prop where
  p : PTs X es (upT Γ t)
def tY : Td := fun _ => Mp true
section
variable {X : Cx} {Γ : Gm}
theorem dts_nil : DTs X Γ [] tY := ⟨⟨fun pins s σ H Q I ⟨R, ρ, n, r, n', rp, e, q⟩ => by
  cases e
  exact pts_nil.run pins s σ H Q I (q R H rp (Go.refl _ _ _))⟩⟩
theorem dts_one {e : Expr} {t : Td} (h : DT X Γ e t) : DTs X Γ [e] t := ⟨pts_one h.p⟩
def lcM (g : Gd) (tt : Td) (te : Ed) (ρ : Sd) : List D → M (List D)
  | [] => Mp []
  | d :: r => Mb (Mo (g d ρ)) fun ρ1 => Mb (tt ρ1) fun b => if b = true then Mb (te ρ1) fun y => Mb (lcM g tt te ρ r) fun ys => Mp (y :: ys) else lcM g tt te ρ r
def eLc (ti : Id') (g : Gd) (tt : Td) (te : Ed) (vs : List Nat) : Ed := fun ρ => Mb (ti ρ) fun ds => Mb (lcM g tt te (wipeD ρ vs) ds) fun rs => Mp (.lst rs)
/-- a yielded item is data -/
theorem yok_step {R R1 H : Hp} {σ : L2.St} {ρ : Sd} {n : Sx} {i : Nat} {ds : List D} {Y : Nat → Hp → V → Hp → Prop} {x : V} {H' : Hp} {d : D} (rp : Rp Γ R H σ ρ n) (hY : YOk Γ.c R1 ds Y) (S : Same R1 R) (hd : ds[i]? = some d) (y : Y i H x H') :
    ∃ R', Rp Γ R' H' σ ρ n ∧ Go Γ R H R' H' ∧ Fz Γ.c R' x d := by
  rcases hY i H x H' d hd y with ⟨rfl, z⟩ | ⟨T, vs, es, rfl, hT, rfl, rfl, l, f⟩
  · exact ⟨R, rp, Go.refl _ _ _, z.mono S.le⟩
  · exact ⟨_, rp.lay hT nm_tup, rp.go hT, .tup (SqT.of upd_same) l ((f.mono S.le).mono (rp.go hT).le)⟩
theorem Go.stay {R H R' H' : Hp} {p : Addr} {o : HO} (g : Go Γ R H R' H') (hp : H p = some o) (hd : p ∉ Γ.W.dom) (hR : R p = none) : H' p = some o ∧ R' p = none := by
  have hn : R' p = none := by
    cases q : R' p with
    | none => rfl
    | some z =>
      rcases g.new p (by rw [q]; exact fun z => nomatch z) with z | z
      · exact absurd hR z
      · rw [hp] at z; cases z
  exact ⟨g.keep p o hp hd (by rw [hn]; exact fun j e => nomatch e), hn⟩
set_option maxHeartbeats 1000000 in
/-- the reading of a comprehension: the list is new, unfrozen -/
theorem lc_up {ti : Id'} {g : Gd} {tt : Td} {te : Ed} {vs : List Nat} {σ : L2.St} {H : Hp} {Q : VK} {R : Hp} {ρ : Sd} {n : Sx} {r : D} {n' : Sx} (rp : Rp Γ R H σ ρ n) (e : eLc ti g tt te vs ρ n = some (r, n'))
    (q : ∀ (Z : Addr) (us : List V) (R' H' : Hp), Rp Γ R' H' σ ρ n' → Go Γ R H R' H' → H Z = none → NoO Γ σ ρ Z → Γ.H0 Z = none → H' Z = some (.lst us) → R' Z = none → us.length ≤ sizeLine → (∃ rs, r = .lst rs ∧ FzA Γ.c R' us rs) → Q (.ref Z) H') :
    tLc (upI Γ ti) (upG Γ vs g) (upT Γ tt) (up Γ te) vs σ H Q := by
  obtain ⟨ds, m, e1, e⟩ := Mb_some e
  obtain ⟨rs, m2, e2, e⟩ := Mb_some e
  cases e
  · refine ⟨R, ρ, n, ds, m, rp, e1, fun J G Y R1 H1 rp1 S1 W hG hY hzz Z hZ => ?_⟩
    have hR1 : R1 Z = none := rp1.hp.same.free hZ
    have h0 : Γ.H0 Z = none := rp1.hp.nn hZ
    have hdm : Z ∉ Γ.W.dom := fun z => rp1.hp.d0 Z z h0
    have hnO := rp1.noO hZ
    have hHZ : H Z = none := S1.nn Z hZ
    refine lc_it W (fun i H2 => ∃ R2 n2 us as bs, Rp Γ R2 H2 σ ρ n2 ∧ Go Γ R H R2 H2 ∧ Same R1 R2 ∧ H2 Z = some (.lst us) ∧ R2 Z = none ∧ FzA Γ.c R2 us as ∧ lcM g tt te (wipeD ρ vs) (ds.drop i) n2 = some (bs, n') ∧ rs = as ++ bs ∧ as.length ≤ i) ?_ ?_ ?_ ?_
    · exact ⟨R1, m, [], [], rs, rp1.lay0 hZ, S1.lay0 hZ, Same.refl _, upd_same, hR1, .nil, by rw [List.drop_zero]; exact e2, rfl, Nat.le_refl _⟩
    · rintro i H2 _ ⟨R2, n2, us, as, bs, rp2, _, S2, _⟩
      exact hG H2 (S2.tr rp2.hp.same)
    · rintro i x H2 H3 hi ⟨R2, n2, us, as, bs, rp2, g2, S2, hZ2, hRZ2, f2, e3, er, hl⟩ hy
      have hd : ds[i]? = some ds[i] := List.getElem?_eq_getElem hi
      rw [List.drop_eq_getElem_cons hi] at e3
      obtain ⟨R3, rp3, g3, z3⟩ := yok_step rp2 hY S2 hd hy
      obtain ⟨hZ3, hRZ3⟩ := g3.stay hZ2 hdm hRZ2
      obtain ⟨ρ1, n3, e4, e5⟩ := Mb_some e3
      obtain ⟨e4', rfl⟩ := Mo_some e4
      obtain ⟨b, n4, e6, e7⟩ := Mb_some e5
      refine ⟨R3, wipeD ρ vs, n3, ds[i], ρ1, rp3.wipe vs, z3, e4', fun σ1 hl1 ha1 rp1' => ⟨?_, R3, ρ1, n3, b, n4, rp1', e6, fun R4 H4 rp4 g4 => ?_⟩⟩
      · refine wipe_eq (by rw [hl1, wipe_length]) fun j hj => ?_
        rw [ha1 j hj, wipe_out hj]
      · obtain ⟨hZ4, hRZ4⟩ := g4.stay hZ3 hdm hRZ3
        cases b with
        | true =>
          obtain ⟨y, n5, e8, e9⟩ := Mb_some e7
          obtain ⟨ys, n6, e10, e11⟩ := Mb_some e9
          cases e11
          refine iteT ⟨R4, ρ1, n4, y, n5, rp4, e8, fun v R5 H5 rp5 g5 z5 => ?_⟩
          obtain ⟨hZ5, hRZ5⟩ := g5.stay hZ4 hdm hRZ4
          have f5 := ((f2.mono g3.le).mono g4.le).mono g5.le
          have lus : us.length ≤ i := by rw [f2.len]; exact hl
          have g25 := (g3.trans g4).trans g5
          refine ⟨us, hZ5, by omega, R5, n5, us ++ [v], as ++ [y], ys, ?_, (g2.trans g25).mutN hHZ, S2.trans g25.same, upd_same, hRZ5, f5.app (.cons z5 .nil), e10, ?_, ?_⟩
          · exact (rp2.along g25 rp5.hp).mutO hRZ5 h0 hnO
          · rw [er, List.append_assoc]; rfl
          · rw [List.length_append, List.length_singleton]; omega
        | false =>
          have g24 := g3.trans g4
          exact iteF ⟨R4, n4, us, as, bs, rp2.along g24 rp4.hp, g2.trans g24, S2.trans g24.same, hZ4, hRZ4, (f2.mono g3.le).mono g4.le, e7, er, by omega⟩
    · rintro H2 ⟨R2, n2, us, as, bs, rp2, g2, S2, hZ2, hRZ2, f2, e3, er, hl⟩
      rw [List.drop_length] at e3
      cases e3
      rw [List.append_nil] at er
      subst er
      exact q Z us R2 H2 rp2 g2 hHZ hnO h0 hZ2 hRZ2 (by rw [f2.len]; omega) ⟨_, rfl, f2⟩
theorem d_lc {elt tg iter : Expr} {ifs : List Expr} {scope : Scope} {own : List (Str × Nat)} {vs : List Nat} {pos : Pos} {ti : Id'} {g : Gd} {tt : Td} {te : Ed} (hN : X.N.Nodup) (hi : DI X Γ tg iter ti) (ok : BlkOk X.N X.env.scope scope own)
    (hg : ∀ (s : Shared) (H : Hp) (C : Addr) (cl : List (Str × Addr)) (fp : List Addr), DG (X.blk s H scope (compEnvC scope cl C X.env) fp) Γ tg vs g) (ht : ∀ (s : Shared) (H : Hp) (C : Addr) (cl : List (Str × Addr)) (fp : List Addr), DTs (X.blk s H scope (compEnvC scope cl C X.env) fp) Γ ifs tt)
    (he : ∀ (s : Shared) (H : Hp) (C : Addr) (cl : List (Str × Addr)) (fp : List Addr), DE (X.blk s H scope (compEnvC scope cl C X.env) fp) Γ elt te) (hvs : own.map (·.2) = vs := by rfl) (hc : X.calm = true := by rfl) (hs : ∀ x, foldedSetIterable iter X.env x = pure x := by intro _; rfl) :
    DE X Γ (.ListComp elt [⟨tg, iter, ifs, 0⟩] scope pos) (eLc ti g tt te vs) :=
  ⟨PE.wk (pe_lc hc hN hi.p ok (fun s H C cl fp => (hg s H C cl fp).p) (fun s H C cl fp => (ht s H C cl fp).p) (fun s H C cl fp => (he s H C cl fp).p) hs) fun σ H Q ⟨R, ρ, n, r, n', rp, e, q⟩ => by
    rw [hvs]
    refine lc_up rp e fun Z us R' H' rp' g' hZ hnO h0 hZ' hR' hl ⟨rs, er, f⟩ => ?_
    subst er
    exact q _ _ H' (rp'.freeze hZ' hR' h0 hnO) (g'.freeze hZ hR') (.lst upd_same hl (f.mono (same_new hR' _).le))⟩
/-! fresh, unfrozen objects -/
def upO (Γ : Gm) (t : Ed) : TE := fun σ H Q => ∃ R ρ n r n', Rp Γ R H σ ρ n ∧ t ρ n = some (r, n') ∧ ∀ a o R' H', Rp Γ R' H' σ ρ n' → Go Γ R H R' H' → H a = none → H' a = some o → R' a = none → Γ.H0 a = none → NoO Γ σ ρ a → FzO Γ.c R' o r → Q (.ref a) H'
structure DO (X : Cx) (Γ : Gm) (e : Expr) (t : Ed) : Prop where
  p : PE X e (upO Γ t)
theorem d_of {e : Expr} {t : Ed} (h : DO X Γ e t) : DE X Γ e t := ⟨PE.wk h.p fun σ H Q ⟨R, ρ, n, r, n', rp, e, q⟩ => ⟨R, ρ, n, r, n', rp, e, fun a o R' H' rp' g' ha ha' hR h0 hn f =>
  q _ _ H' (rp'.freeze ha' hR h0 hn f.nm) (g'.freeze ha hR) ((f.mono (same_new hR o).le).fz upd_same)⟩⟩
theorem do_lst {es : List Expr} {t : Ad} {pos : Pos} {k : Nat} (h : DA X Γ es t) (hl : ∀ ρ n r n', t ρ n = some (r, n') → r.length = k) (hk : k ≤ sizeLine := by decide) : DO X Γ (.List es pos) (eLst t) := ⟨PE.wk (pe_lst h.p) fun σ H Q ⟨R, ρ, n, r, n', rp, e, q⟩ => by
  obtain ⟨ds, m, e1, e⟩ := Mb_some e
  cases e
  refine ⟨R, ρ, n, ds, _, rp, e1, fun vs R1 H1 rp1 S1 z1 => ?_⟩
  have hz : vs.length ≤ sizeLine := by rw [z1.len, hl _ _ _ _ e1]; exact hk
  exact ⟨hz, fun p hp => q p _ R1 _ (rp1.lay0 hp) (S1.lay0 hp) (S1.nn p hp) upd_same (rp1.hp.same.free hp) (rp1.hp.nn hp) (rp1.noO hp) (.lst hz z1)⟩⟩
theorem do_lc {elt tg iter : Expr} {ifs : List Expr} {scope : Scope} {own : List (Str × Nat)} {vs : List Nat} {pos : Pos} {ti : Id'} {g : Gd} {tt : Td} {te : Ed} (hN : X.N.Nodup) (hi : DI X Γ tg iter ti) (ok : BlkOk X.N X.env.scope scope own)
    (hg : ∀ (s : Shared) (H : Hp) (C : Addr) (cl : List (Str × Addr)) (fp : List Addr), DG (X.blk s H scope (compEnvC scope cl C X.env) fp) Γ tg vs g) (ht : ∀ (s : Shared) (H : Hp) (C : Addr) (cl : List (Str × Addr)) (fp : List Addr), DTs (X.blk s H scope (compEnvC scope cl C X.env) fp) Γ ifs tt)
    (he : ∀ (s : Shared) (H : Hp) (C : Addr) (cl : List (Str × Addr)) (fp : List Addr), DE (X.blk s H scope (compEnvC scope cl C X.env) fp) Γ elt te) (hvs : own.map (·.2) = vs := by rfl) (hc : X.calm = true := by rfl) (hs : ∀ x, foldedSetIterable iter X.env x = pure x := by intro _; rfl) :
    DO X Γ (.ListComp elt [⟨tg, iter, ifs, 0⟩] scope pos) (eLc ti g tt te vs) :=
  ⟨PE.wk (pe_lc hc hN hi.p ok (fun s H C cl fp => (hg s H C cl fp).p) (fun s H C cl fp => (ht s H C cl fp).p) (fun s H C cl fp => (he s H C cl fp).p) hs) fun σ H Q ⟨R, ρ, n, r, n', rp, e, q⟩ => by
    rw [hvs]
    refine lc_up rp e fun Z us R' H' rp' g' hZ hnO h0 hZ' hR' hl ⟨rs, er, f⟩ => ?_
    subst er
    exact q _ _ R' H' rp' g' hZ hZ' hR' h0 hnO (.lst hl f)⟩
end
/-! owned slots opened -/
abbrev Gm.o (Γ : Gm) : Gm := { Γ with ow := [] }
section
variable {Γ : Gm} {R R' H H' : Hp} {σ : L2.St} {ρ : Sd} {n n' : Sx}
theorem HpOk.o (h : HpOk Γ R H n) : HpOk Γ.o R H n := ⟨h.same, h.dj, h.d0, h.wd, h.keep, h.r0, h.new, h.m⟩
theorem HpOk.c (h : HpOk Γ.o R H n) : HpOk Γ R H n := ⟨h.same, h.dj, h.d0, h.wd, h.keep, h.r0, h.new, h.m⟩
def Owd (Γ : Gm) (σ : L2.St) (ρ : Sd) (a : Addr) : Prop := ∃ i d, i ∈ Γ.ow ∧ ρ[i]? = some (some d) ∧ σ[i]? = some (some (.ref a))
open Classical in
noncomputable def opn (Γ : Gm) (σ : L2.St) (ρ : Sd) (R H : Hp) : Hp := fun a => if Owd Γ σ ρ a then H a else R a
open Classical in
noncomputable def cls (Γ : Gm) (σ : L2.St) (ρ : Sd) (R : Hp) : Hp := fun a => if Owd Γ σ ρ a then none else R a
theorem opn_in {a : Addr} (h : Owd Γ σ ρ a) : opn Γ σ ρ R H a = H a := if_pos h
theorem opn_out {a : Addr} (h : ¬ Owd Γ σ ρ a) : opn Γ σ ρ R H a = R a := if_neg h
theorem cls_in {a : Addr} (h : Owd Γ σ ρ a) : cls Γ σ ρ R a = none := if_pos h
theorem cls_out {a : Addr} (h : ¬ Owd Γ σ ρ a) : cls Γ σ ρ R a = R a := if_neg h
theorem Rp.owd (h : Rp Γ R H σ ρ n) {a : Addr} (q : Owd Γ σ ρ a) : ∃ o d, H a = some o ∧ R a = none ∧ Γ.H0 a = none ∧ FzO Γ.c R o d := by
  obtain ⟨i, d, hi, hd, hs⟩ := q
  obtain ⟨b, o, h1, h2, h3, h4, h5⟩ := h.own i d hi hd
  rw [hs] at h1; cases h1
  exact ⟨o, d, h2, h3, h4, h5⟩
theorem Rp.opnS (h : Rp Γ R H σ ρ n) : Same R (opn Γ σ ρ R H) := fun a o e => by
  by_cases q : Owd Γ σ ρ a
  · obtain ⟨_, _, _, h3, _⟩ := h.owd q
    rw [h3] at e; cases e
  · rw [opn_out q]; exact e
theorem Rp.opnM (h : Rp Γ R H σ ρ n) : ∀ a j, Sh.opn Γ σ ρ R H a = some (mrk j) → R a = some (mrk j) := fun a j e => by
  by_cases q : Owd Γ σ ρ a
  · obtain ⟨o, d, h1, h2, h3, h4⟩ := h.owd q
    rw [opn_in q, h1] at e
    cases e
    exact absurd rfl (h4.nm j)
  · rwa [opn_out q] at e
theorem Rp.opn (h : Rp Γ R H σ ρ n) : Rp Γ.o (Sh.opn Γ σ ρ R H) H σ ρ n := by
  have S := h.opnS
  refine ⟨h.len, fun i d _ e => ?_, fun i d hi _ => absurd hi (by simp), fun i j a d1 d2 hi => absurd hi (by simp), ⟨⟨fun a o e nu => ?_, fun a j e => ?_⟩, fun a m => ?_, h.hp.d0, h.hp.wd, h.hp.keep.up S, h.hp.r0.trans S, fun a e => ?_, h.hp.m.go S h.opnM fun a j o _ q => q⟩⟩
  · by_cases hi : i ∈ Γ.ow
    · obtain ⟨a, o, h1, h2, h3, h4, h5⟩ := h.own i d hi e
      refine ⟨_, h1, (h5.mono S.le).fz ?_⟩
      rw [opn_in ⟨i, d, hi, e, h1⟩]; exact h2
    · obtain ⟨v, h1, h2⟩ := h.fz i d hi e
      exact ⟨v, h1, h2.mono S.le⟩
  · by_cases q : Owd Γ σ ρ a
    · rw [opn_in q] at e; exact e
    · rw [opn_out q] at e; exact h.hp.same.st _ _ e nu
  · exact h.hp.same.th a j (h.opnM a j e)
  · have q : ¬ Owd Γ σ ρ a := fun q => by
      obtain ⟨_, _, _, _, h4, _⟩ := h.owd q
      exact h.hp.d0 a m h4
    rw [opn_out q]; exact h.hp.dj a m
  · by_cases q : Owd Γ σ ρ a
    · obtain ⟨_, _, _, _, h4, _⟩ := h.owd q
      exact .inr h4
    · rw [opn_out q] at e; exact h.hp.new a e
/-- behind an expression over opened slots -/
theorem Rp.close (h : Rp Γ R H σ ρ n) (k : HpOk Γ.o R' H' n') (g : Go Γ.o (Sh.opn Γ σ ρ R H) H R' H') :
    Rp Γ (Sh.cls Γ σ ρ R') H' σ ρ n' ∧ Go Γ R H (Sh.cls Γ σ ρ R') H' ∧ ∀ v r, Fz Γ.c R' v r → r.flat = true → Fz Γ.c (Sh.cls Γ σ ρ R') v r := by
  have ow : ∀ a, Owd Γ σ ρ a → ∃ o d, R' a = some o ∧ H' a = some o ∧ Γ.H0 a = none ∧ FzO Γ.c R o d := fun a q => by
    obtain ⟨o, d, h2, h3, h4, h5⟩ := h.owd q
    have e1 : R' a = some o := g.same a o (by rw [opn_in q]; exact h2)
    exact ⟨o, d, e1, k.same.st _ _ e1 h5.nm, h4, h5⟩
  have S : Same R (Sh.cls Γ σ ρ R') := fun a o e => by
    by_cases q : Owd Γ σ ρ a
    · obtain ⟨_, _, _, h3, _⟩ := h.owd q
      rw [h3] at e; cases e
    · rw [cls_out q]; exact g.same a o (by rw [opn_out q]; exact e)
  have nw : ∀ a, Sh.cls Γ σ ρ R' a ≠ none → R a ≠ none ∨ H a = none := fun a e => by
    by_cases q : Owd Γ σ ρ a
    · exact absurd (cls_in q) e
    · rw [cls_out q] at e
      rcases g.new a e with z | z
      · rw [opn_out q] at z; exact .inl z
      · exact .inr z
  have mm : ∀ a j, R' a = some (mrk j) → Sh.cls Γ σ ρ R' a = some (mrk j) := fun a j e => by
    have nq : ¬ Owd Γ σ ρ a := fun z => by
      obtain ⟨o, d, e1, _, _, f⟩ := ow a z
      rw [e] at e1; cases e1
      exact absurd rfl (f.nm j)
    rw [cls_out nq]; exact e
  have mm' : ∀ a j, Sh.cls Γ σ ρ R' a = some (mrk j) → R' a = some (mrk j) := fun a j e => by
    by_cases q : Owd Γ σ ρ a
    · rw [cls_in q] at e; cases e
    · rwa [cls_out q] at e
  have hd : ∀ a xs, Rd R' a (.tup xs) → Rd (Sh.cls Γ σ ρ R') a (.tup xs) := fun a xs q => by
    have nq : ¬ Owd Γ σ ρ a := fun z => by
      obtain ⟨o, d, e1, _, _, f⟩ := ow a z
      rcases q with q | ⟨o', q⟩
      · rw [e1] at q; cases q; cases f
      · rw [e1] at q; cases q; cases f
    rcases q with q | ⟨o', q⟩
    · exact .inl (by rw [cls_out nq]; exact q)
    · exact .inr ⟨o', by rw [cls_out nq]; exact q⟩
  refine ⟨⟨h.len, fun i d hi e => ?_, fun i d hi e => ?_, h.dist, ⟨⟨fun a o e nu => ?_, fun a j e => k.same.th a j (mm' a j e)⟩, fun a m => ?_, h.hp.d0, k.wd, fun a o e m1 m2 => k.keep a o e m1 fun j e' => m2 j (mm a j e'), h.hp.r0.trans S, fun a e => ?_, ⟨fun a j e => ?_, fun a b j e f => k.m.mi a b j (mm' a j e) (mm' b j f)⟩⟩⟩, ⟨S, fun a o e m1 m2 => g.keep a o e m1 fun j e' => m2 j (mm a j e'), nw, g.nn⟩, fun v r z fl => Fz.hide ⟨hd, mm⟩ z fl⟩
  · obtain ⟨v, h1, h2⟩ := h.fz i d hi e
    exact ⟨v, h1, h2.mono S.le⟩
  · obtain ⟨a, o, h1, h2, h3, h4, h5⟩ := h.own i d hi e
    have q : Owd Γ σ ρ a := ⟨i, d, hi, e, h1⟩
    have e1 : R' a = some o := g.same a o (by rw [opn_in q]; exact h2)
    exact ⟨a, o, h1, k.same.st _ _ e1 h5.nm, cls_in q, h4, h5.mono S.le⟩
  · by_cases q : Owd Γ σ ρ a
    · rw [cls_in q] at e; cases e
    · rw [cls_out q] at e; exact k.same.st _ _ e nu
  · by_cases q : Owd Γ σ ρ a
    · exact cls_in q
    · rw [cls_out q]; exact k.dj a m
  · rcases nw a e with z | z
    · exact h.hp.new a z
    · exact .inr (h.hp.nn z)
  · obtain ⟨o, d, h1, h2, h3, h4⟩ := k.m.ms a j (mm' a j e)
    exact ⟨o, d, h1, h2, h3.hide ⟨hd, mm⟩ h4, h4⟩
variable {X : Cx} {e : Expr}
def eFl (t : Ed) : Ed := fun ρ => Mb (t ρ) fun d => Mo (if d.flat = true then some d else none)
theorem d_open {t : Ed} (h : DE X Γ.o e t) : DE X Γ e (eFl t) := ⟨PE.wk h.p fun σ H Q ⟨R, ρ, n, r, n', rp, e, q⟩ => by
  obtain ⟨d, m, e1, e⟩ := Mb_some e
  obtain ⟨ee, rfl⟩ := Mo_some e
  obtain ⟨fl, ee⟩ := ite_some ee
  cases ee
  refine ⟨_, ρ, n, r, _, rp.opn, e1, fun v R1 H1 rp1 g1 z1 => ?_⟩
  obtain ⟨rp2, g2, hh⟩ := rp.close rp1.hp g1
  exact q v _ H1 rp2 g2 (hh v r z1 fl)⟩
theorem dt_open {t : Td} (h : DT X Γ.o e t) : DT X Γ e t := ⟨PT.wk h.p fun σ H Q ⟨R, ρ, n, r, n', rp, e, q⟩ => by
  refine ⟨_, ρ, n, r, _, rp.opn, e, fun R1 H1 rp1 g1 => ?_⟩
  obtain ⟨rp2, g2, _⟩ := rp.close rp1.hp g1
  exact q _ H1 rp2 g2⟩
end
/-! calls of defs -/
def spM (c : Cn) (W : Wd) (f : List D → M D) : Sp := fun vs H Q _ => ∃ R ds r n n', FzA c R vs ds ∧ HpOk ⟨c, W, [], H, R⟩ R H n ∧ f ds n = some (r, n') ∧ ∀ v R' H', HpOk ⟨c, W, [], H, R⟩ R' H' n' → Fz c R' v r → Q v H'
def eCall (f : List D → M D) (t : Ad) : Ed := fun ρ => Mb (t ρ) f
section
variable {X : Cx} {Γ : Gm} {k : Nat} {fa : Addr} {fd : FuncData} {ps : List Str} {f : List D → M D} {x : Str} {p pos : Pos} {e : Expr} {es : List Expr} {t : Ad}
theorem call_up {σ : L2.St} {H : Hp} {Q : VK} {E : XK} (h : up Γ (eCall f t) σ H Q) : upA Γ t σ H fun vs H1 => spM Γ.c Γ.W f (vs ++ []) H1 Q E := by
  obtain ⟨R, ρ, n, r, n', rp, e, q⟩ := h
  obtain ⟨ds, m, e1, e⟩ := Mb_some e
  refine ⟨R, ρ, n, ds, m, rp, e1, fun vs R1 H1 rp1 g1 z1 => ?_⟩
  show spM Γ.c Γ.W f (vs ++ []) H1 Q E
  rw [List.append_nil]
  exact ⟨R1, ds, r, m, n', z1, rp1.hp.enter, e, fun v R2 H2 k z => q v R2 H2 (rp1.then k) (g1.trans (HpOk.go k)) z⟩
theorem d_call (F : FnOk X.prog X.w X.K X.mg X.base CX0 k fa fd ps (spM Γ.c Γ.W f)) (hr : Room k X.A) (hg : Gl X x) (hm : X.mg x = some (.ref fa)) (hk : PySem.W.keepIn X.K (.ref fa) = true) (hb : Binds X.K fd ps []) (ha : DA X Γ (e :: es) t)
    (he : starEach (e :: es) X.env = (false, eval e X.env) :: starEach es X.env := by rfl) (hpl : (backTo pos (starEach es X.env)).any (·.1) = false := by rfl) (hdb : (x == ("__debug__" : Str)) = false := by decide) : DE X Γ (.Call (.Name x p) (e :: es) [] pos) (eCall f t) :=
  ⟨PE.wk (pe_call F hr hg hm hk hb .nil pass0 ha.p hdb he hpl) fun σ H Q h => call_up h⟩
end
end Sh

set_option Elab.async false
set_option linter.all false
set_option maxRecDepth 100000
namespace Sh
open PySem PySem.Spec PyProof.Rows L2
theorem ext_tup {l b : Addr} {ys zs : Array Value} {n m : Nat} {dd : Option Addr} {sl : Array (Option Value)} (h0 : ¬(!ys.isEmpty && Builtin.List.listTooLong (ys.size + zs.size)) = true) (h1 : ys.size ≤ sizeLine) (h2 : ys.size + zs.size ≤ sizeLine + 1) :
    Meets (Builtin.«list.extend» ⟨[.ref l, .ref b], []⟩) (fun _ R s => s.heap.get? l = some { cls := .type "list", data := .seq ys n } ∧
      s.heap.get? b = some { cls := .type "tuple", dict := dd, data := .seq zs m, slots := sl } ∧ R (.ok (.ret Value.none)) { s with heap := s.heap.update l (Obj.mapSeq fun x => x ++ zs), toks := s.toks }) :=
  .of_wp fun prog w A R s h => by
    obtain ⟨hp, g, d, tk, os⟩ := s
    obtain ⟨hl, hb, h⟩ := h
    have g1 := F.sub_tuple_list
    have g2 := F.sub_tuple_tuple
    have g3 := F.sub_list_list
    have hz' : (ys ++ zs).size ≤ sizeLine + 1 := by rw [Array.size_append]; exact h2
    wp_walk using (wpAny_updateSeq hl rfl (hz := h1) (_hz' := hz')), wpAny_loadPart' hl, wpAny_loadPart' hb
    exact ⟨_, rfl, h⟩
def rExtT (K : PySem.W.Frag) : V → List V → Hp → VK → Prop := fun x vs H Q => ∃ l b xs zs, x = .ref l ∧ vs = [.ref b] ∧ H l = some (.lst xs) ∧ SqT K H b zs ∧ xs.length + zs.length ≤ sizeLine ∧ Q .non (upd H l (.lst (xs ++ zs)))
theorem mt_extT {X : Cx} : MtM X "list.extend" (rExtT X.K) := by
  intro pins s σ H x vs v us Q I rx rv h
  obtain ⟨l, b, xs, zs, rfl, rfl, hH, hB, hz, q⟩ := h
  cases rx
  obtain ⟨u, rfl, ru⟩ := rv.one
  cases ru
  obtain ⟨z, its, n, r, hl, e⟩ := I.lstM hH
  obtain ⟨its2, r2, p2, hz2⟩ := I.tuple hB
  obtain ⟨⟨cls, dd, data, sl⟩, e2, hc, m, hd⟩ := p2
  simp only at hc hd
  subst hc hd
  have hs : its.toArray.size + its2.toArray.size ≤ sizeLine := by rw [List.size_toArray, List.size_toArray, ← hl, ← r2.length]; exact hz
  have long : ¬ (!its.toArray.isEmpty && Builtin.List.listTooLong (its.toArray.size + its2.toArray.size)) = true := by
    rw [notLongL hs, Bool.and_false]
    decide
  refine call_meets F.slot_list_extend ⟨_, e, rfl⟩ F.entry_list_extend (F.args_list_extend_2 _ _) (ext_tup long (by rw [List.size_toArray]; omega) (by omega)) ⟨e, e2, ?_⟩
  exact ⟨.non, _, I.lset (its' := its ++ its2) hH e (by simp) (r.append r2) (by rw [List.length_append]; exact hz), rfl, q⟩
end Sh
namespace Sh
open PySem L2 Nf
/-! statements -/
inductive Fl where
  | next (ρ : Sd) | ret (d : D) | brk (ρ : Sd) | cont (ρ : Sd)
abbrev Bd := Sd → M Fl
def Kx (Γ : Gm) (E : Ends) (R : Hp) (n' : Sx) : Fl → Prop
  | .next ρ' => ∀ R' H' σ', Rp Γ R' H' σ' ρ' n' → Same R R' → E.nx σ' H'
  | .ret d => ∀ v R' H', HpOk Γ R' H' n' → Fz Γ.c R' v d → E.rt v H'
  | .brk ρ' => ∀ R' H' σ', Rp Γ R' H' σ' ρ' n' → Same R R' → E.bk σ' H'
  | .cont ρ' => ∀ R' H' σ', Rp Γ R' H' σ' ρ' n' → Same R R' → E.ct σ' H'
theorem Kx.mono {Γ : Gm} {E : Ends} {R R1 : Hp} {n' : Sx} {fl : Fl} (h : Kx Γ E R n' fl) (S : Same R R1) : Kx Γ E R1 n' fl := by
  cases fl with
  | next ρ' => exact fun R' H' σ' rp S' => h R' H' σ' rp (S.trans S')
  | ret d => exact h
  | brk ρ' => exact fun R' H' σ' rp S' => h R' H' σ' rp (S.trans S')
  | cont ρ' => exact fun R' H' σ' rp S' => h R' H' σ' rp (S.trans S')
def upS (Γ : Gm) (t : Bd) : TS := fun E σ H => ∃ R ρ n fl n', Rp Γ R H σ ρ n ∧ t ρ n = some (fl, n') ∧ Kx Γ E R n' fl
structure DS (X : Cx) (Γ : Gm) (s : Stmt) (t : Bd) : Prop where
  p : PS X s (upS Γ t)
structure DB (X : Cx) (Γ : Gm) (s : List Stmt) (t : Bd) : Prop where
  p : PSs X s (upS Γ t)
section
variable {X : Cx} {Γ : Gm} {st : Stmt} {rest : List Stmt} {t u : Bd} {pos : Pos}
def bNil : Bd := fun ρ => Mp (.next ρ)
def bSeq (t u : Bd) : Bd := fun ρ => Mb (t ρ) fun fl => match fl with
  | .next ρ' => u ρ'
  | o => Mp o
theorem db_nil : DB X Γ [] bNil := ⟨PSs.wk pss_nil fun E σ H ⟨R, ρ, n, fl, n', rp, e, q⟩ => by
  cases e; exact q R H σ rp (Same.refl _)⟩
theorem db_cons (h1 : DS X Γ st t) (h2 : DB X Γ rest u) : DB X Γ (st :: rest) (bSeq t u) := ⟨PSs.wk (pss_cons h1.p h2.p) fun E σ H ⟨R, ρ, n, fl, n', rp, e, q⟩ => by
  obtain ⟨f1, m, e1, e⟩ := Mb_some e
  refine ⟨R, ρ, n, f1, m, rp, e1, ?_⟩
  cases f1 with
  | next ρ1 => exact fun R' H' σ' rp' S => ⟨R', ρ1, m, fl, n', rp', e, q.mono S⟩
  | ret d => cases e; exact q
  | brk ρ' => cases e; exact q
  | cont ρ' => cases e; exact q⟩
theorem db_one (h1 : DS X Γ st t) : DB X Γ [st] t := ⟨pss_one h1.p⟩
theorem ds_pass : DS X Γ (.Pass pos) bNil := ⟨PS.wk ps_pass fun E σ H ⟨R, ρ, n, fl, n', rp, e, q⟩ => by
  cases e; exact q R H σ rp (Same.refl _)⟩
theorem ds_cont : DS X Γ (.Continue pos) (fun ρ => Mp (.cont ρ)) := ⟨PS.wk ps_continue fun E σ H ⟨R, ρ, n, fl, n', rp, e, q⟩ => by
  cases e; exact q R H σ rp (Same.refl _)⟩
theorem ds_brk : DS X Γ (.Break pos) (fun ρ => Mp (.brk ρ)) := ⟨PS.wk ps_break fun E σ H ⟨R, ρ, n, fl, n', rp, e, q⟩ => by
  cases e; exact q R H σ rp (Same.refl _)⟩
def sRet (t : Ed) : Bd := fun ρ => Mb (t ρ) fun d => Mp (.ret d)
theorem ds_ret {e : Expr} {t : Ed} (h : DE X Γ.o e t) : DS X Γ (.Return (some e) pos) (sRet t) := ⟨PS.wk (ps_ret h.p) fun E σ H ⟨R, ρ, n, fl, n', rp, e, q⟩ => by
  obtain ⟨d, m, e1, e⟩ := Mb_some e
  cases e
  exact ⟨_, ρ, n, d, _, rp.opn, e1, fun v R1 H1 rp1 g1 z1 => q v R1 H1 rp1.hp.c z1⟩⟩
theorem ds_retN : DS X Γ (.Return none pos) (fun ρ => Mp (.ret .non)) := ⟨PS.wk ps_retN fun E σ H ⟨R, ρ, n, fl, n', rp, e, q⟩ => by
  cases e; exact q .non R H rp.hp .non⟩
def sSet (i : Nat) (t : Ed) : Bd := fun ρ => Mb (t ρ) fun d => Mp (.next (ρ.set i (some d)))
theorem ds_set {i : Nat} {x : Str} {e : Expr} {t : Ed} {pos' : Pos} (hN : X.N.Nodup) (hi : X.N[i]? = some x) (hx : Loc X.env.scope x) (h : DE X Γ e t) (hio' : Γ.ow.contains i = false := by rfl) (hs : swapsWith e (some (.Name x pos')) pos.line X.env = pure false := by rfl)
    (hf : X.fn x = true ∨ X.env.scope.names.lookup x = some .local := by first | exact .inl rfl | exact .inr rfl) : DS X Γ (.Assign [.Name x pos'] e pos) (sSet i t) := have hio := nmem_of hio'; ⟨PS.wk (ps_set hN hi hx h.p hs hf) fun E σ H ⟨R, ρ, n, fl, n', rp, e, q⟩ => by
  obtain ⟨d, m, e1, e⟩ := Mb_some e
  cases e
  exact ⟨R, ρ, n, d, _, rp, e1, fun v R1 H1 rp1 g1 z1 => q R1 H1 _ (rp1.set hio z1) g1.same⟩⟩
/-- an owned slot gets a fresh object -/
theorem ds_setO {i : Nat} {x : Str} {e : Expr} {t : Ed} {pos' : Pos} (hN : X.N.Nodup) (hi : X.N[i]? = some x) (hx : Loc X.env.scope x) (h : DO X Γ e t) (hio' : Γ.ow.contains i = true := by rfl) (hs : swapsWith e (some (.Name x pos')) pos.line X.env = pure false := by rfl)
    (hf : X.fn x = true ∨ X.env.scope.names.lookup x = some .local := by first | exact .inl rfl | exact .inr rfl) : DS X Γ (.Assign [.Name x pos'] e pos) (sSet i t) := have hio := mem_of hio'; ⟨PS.wk (ps_set hN hi hx h.p hs hf) fun E σ H ⟨R, ρ, n, fl, n', rp, e, q⟩ => by
  obtain ⟨d, m, e1, e⟩ := Mb_some e
  cases e
  exact ⟨R, ρ, n, d, _, rp, e1, fun a o R1 H1 rp1 g1 ha ha1 hR h0 hn f => q R1 H1 _ (rp1.setO hio ha1 hR h0 f fun j e hj _ he => hn j e hj he) g1.same⟩⟩
/-- name = [.. for ..] -/
theorem ds_setLc {i : Nat} {y : Str} {py : Pos} {elt tg iter : Expr} {ifs : List Expr} {scope : Scope} {own : List (Str × Nat)} {vs : List Nat} {spos : Pos} {ti : Id'} {g : Gd} {tt : Td} {te : Ed} (hN : X.N.Nodup) (hy : X.N[i]? = some y) (hyl : X.env.scope.names.lookup y = some .local)
    (hsw : swapsWith (.ListComp elt [⟨tg, iter, ifs, 0⟩] scope pos) (some (.Name y py)) spos.line X.env = pure true) (hi : DI X Γ tg iter ti) (ok : BlkOk X.N X.env.scope scope own)
    (hg : ∀ (s : Shared) (H : Hp) (C : Addr) (cl : List (Str × Addr)) (fp : List Addr), DG (X.blk s H scope (compEnvC scope cl C X.env) fp) Γ tg vs g) (ht : ∀ (s : Shared) (H : Hp) (C : Addr) (cl : List (Str × Addr)) (fp : List Addr), DTs (X.blk s H scope (compEnvC scope cl C X.env) fp) Γ ifs tt)
    (he : ∀ (s : Shared) (H : Hp) (C : Addr) (cl : List (Str × Addr)) (fp : List Addr), DE (X.blk s H scope (compEnvC scope cl C X.env) fp) Γ elt te) (hvs : own.map (·.2) = vs := by rfl) (hc : X.calm = true := by rfl) (hs : ∀ x, foldedSetIterable iter X.env x = pure x := by intro _; rfl) :
    DS X Γ (.Assign [.Name y py] (.ListComp elt [⟨tg, iter, ifs, 0⟩] scope pos) spos) (sSet i (eLc ti g tt te vs)) :=
  ⟨PS.wk (ps_setLc hc hN hy hyl hsw hi.p ok (fun s H C cl fp => (hg s H C cl fp).p) (fun s H C cl fp => (ht s H C cl fp).p) (fun s H C cl fp => (he s H C cl fp).p) hs) fun E σ H ⟨R, ρ, n, fl, n', rp, e, q⟩ => by
    obtain ⟨d, m, e1, e⟩ := Mb_some e
    cases e
    rw [hvs]
    refine lc_up rp e1 fun Z us R' H' rp' g' hZ hnO h0 hZ' hR' hl ⟨rs, er, f⟩ => ?_
    subst er
    by_cases hio : i ∈ Γ.ow
    · exact q R' H' _ (rp'.setO hio hZ' hR' h0 (.lst hl f) fun j e hj _ he => hnO j e hj he) g'.same
    · exact q _ H' _ ((rp'.freeze hZ' hR' h0 hnO).set hio (.lst upd_same hl (f.mono (same_new hR' _).le))) (g'.freeze hZ hR').same⟩
def sAsg (t : Ed) (g : Gd) : Bd := fun ρ => Mb (t ρ) fun d => Mb (Mo (g d ρ)) fun ρ' => Mp (.next ρ')
theorem ds_asg {tg e : Expr} {t : Ed} {vs : List Nat} {g : Gd} (h : DE X Γ e t) (hg : DG X Γ tg vs g) (hs : swapsWithSole [tg] e pos.line X.env = pure false := by rfl) (hw : swappedStores [tg] e X.env = pure none := by rfl)
    (h1 : (assignEach [tg] X.env).map (·.2) = [assign tg X.env] := by rfl) : DS X Γ (.Assign [tg] e pos) (sAsg t g) := ⟨PS.wk (ps_asg h.p hg.p hs hw h1) fun E σ H ⟨R, ρ, n, fl, n', rp, e, q⟩ => by
  obtain ⟨d, m, e1, w1⟩ := Mb_some e
  obtain ⟨ρ1, m1, e2, w2⟩ := Mb_some w1
  obtain ⟨e3, rfl⟩ := Mo_some e2
  cases w2
  exact ⟨R, ρ, n, d, _, rp, e1, fun v R1 H1 rp1 g1 z1 => ⟨R1, ρ, _, d, ρ1, rp1, z1, e3, fun σ' _ _ rp2 => q R1 H1 σ' rp2 g1.same⟩⟩⟩
def sIf (c : Td) (t u : Bd) : Bd := fun ρ => Mb (c ρ) fun b => if b = true then t ρ else u ρ
theorem ds_if {c : Expr} {a b : List Stmt} {pc : Td} (hc : DT X Γ c pc) (ha : DB X Γ a t) (hb : DB X Γ b u) : DS X Γ (.If c a b pos) (sIf pc t u) := ⟨PS.wk (ps_if hc.p ha.p hb.p) fun E σ H ⟨R, ρ, n, fl, n', rp, e, q⟩ => by
  obtain ⟨d, m, e1, e⟩ := Mb_some e
  refine ⟨R, ρ, n, d, m, rp, e1, fun R1 H1 rp1 g1 => ?_⟩
  cases d with
  | true => exact iteT ⟨R1, ρ, m, fl, n', rp1, e, q.mono g1.same⟩
  | false => exact iteF ⟨R1, ρ, m, fl, n', rp1, e, q.mono g1.same⟩⟩
/-! loops -/
def wM (c : Td) (b : Bd) : Nat → Bd
  | 0, _ => fun _ => none
  | k + 1, ρ => Mb (c ρ) fun x => if x = true then Mb (b ρ) fun fl => match fl with
      | .next ρ' => wM c b k ρ'
      | .cont ρ' => wM c b k ρ'
      | .brk ρ' => Mp (.next ρ')
      | .ret d => Mp (.ret d)
    else Mp (.next ρ)
/-- as many turns as any loop here can have -/
def FU : Nat := 1000000000
def sWh (c : Td) (b : Bd) : Bd := wM c b FU
theorem ds_wh {c : Expr} {body : List Stmt} {pc : Td} (hc : DT X Γ c pc) (hb : DB X Γ body t) (hp : PassesOwn (model X.prog X.w) X.A X.env X.xe := by exact PassesOwn.never) : DS X Γ (.While c body [] pos) (sWh pc t) := ⟨PS.wk (ps_while hp hc.p hb.p) fun E σ H ⟨R, ρ, n, fl, n', rp, e, q⟩ => by
  refine ⟨fun k σ H => ∃ R1 ρ n, Rp Γ R1 H σ ρ n ∧ Same R R1 ∧ wM pc t k ρ n = some (fl, n'), ⟨FU, R, ρ, n, rp, Same.refl _, e⟩, ?_⟩
  rintro k σ1 H1 ⟨R1, ρ1, n1, rp1, S1, e⟩
  cases k with
  | zero => cases e
  | succ k =>
    obtain ⟨x, m, e1, e⟩ := Mb_some e
    refine ⟨R1, ρ1, n1, x, m, rp1, e1, fun R2 H2 rp2 g2 => ?_⟩
    cases x with
    | false => cases e; exact iteF (q R2 H2 σ1 rp2 (S1.trans g2.same))
    | true =>
      obtain ⟨f1, m2, e2, e⟩ := Mb_some e
      refine iteT ⟨fun σ' H' => ∃ R1 ρ n, Rp Γ R1 H' σ' ρ n ∧ Same R R1 ∧ wM pc t k ρ n = some (fl, n'), fun σ' H' h => ⟨k, Nat.lt_succ_self k, h⟩, ?_⟩
      refine ⟨R2, ρ1, m, f1, m2, rp2, e2, ?_⟩
      cases f1 with
      | next ρ' => exact fun R' H' σ' rp' S' => ⟨R', ρ', m2, rp', (S1.trans g2.same).trans S', e⟩
      | cont ρ' => exact fun R' H' σ' rp' S' => ⟨R', ρ', m2, rp', (S1.trans g2.same).trans S', e⟩
      | brk ρ' => cases e; exact fun R' H' σ' rp' S' => q R' H' σ' rp' ((S1.trans g2.same).trans S')
      | ret d => cases e; exact q⟩
def fM (g : Gd) (b : Bd) : List D → Bd
  | [], ρ => Mp (.next ρ)
  | d :: r, ρ => Mb (Mo (g d ρ)) fun ρ1 => Mb (b ρ1) fun fl => match fl with
      | .next ρ' => fM g b r ρ'
      | .cont ρ' => fM g b r ρ'
      | .brk ρ' => Mp (.next ρ')
      | .ret d => Mp (.ret d)
def sFor (ti : Id') (g : Gd) (b : Bd) : Bd := fun ρ => Mb (ti ρ) fun ds => fM g b ds ρ
theorem ds_for {tg iter : Expr} {body : List Stmt} {ti : Id'} {vs : List Nat} {g : Gd} (hi : DI X Γ tg iter ti) (hg : DG X Γ tg vs g) (hb : DB X Γ body t) (hc : X.calm = true := by rfl) (hp : PassesOwn (model X.prog X.w) X.A X.env X.xe := by exact PassesOwn.never) (hs : ∀ x, foldedSetIterable iter X.env x = pure x := by intro _; rfl) :
    DS X Γ (.For tg iter body [] pos) (sFor ti g t) := ⟨PS.wk (ps_for hp hc hi.p hg.p hb.p hs) fun E σ H ⟨R, ρ, n, fl, n', rp, e, q⟩ => by
  obtain ⟨ds, m, e1, e⟩ := Mb_some e
  refine ⟨R, ρ, n, ds, m, rp, e1, fun J G Y R1 H1 rp1 S1 W hG hY hz => ?_⟩
  refine for_it W (fun i σ H => ∃ R2 ρ2 n2, Rp Γ R2 H σ ρ2 n2 ∧ Same R1 R2 ∧ fM g t (ds.drop i) ρ2 n2 = some (fl, n')) ?_ ?_ ?_ ?_
  · exact ⟨R1, ρ, m, rp1, Same.refl _, by rw [List.drop_zero]; exact e⟩
  · rintro i σ2 H2 _ ⟨R2, ρ2, n2, rp2, S2, _⟩
    exact hG H2 (S2.tr rp2.hp.same)
  · rintro i x σ2 H2 H3 hi ⟨R2, ρ2, n2, rp2, S2, e2⟩ hy
    have hd : ds[i]? = some ds[i] := List.getElem?_eq_getElem hi
    rw [List.drop_eq_getElem_cons hi] at e2
    obtain ⟨R3, rp3, g3, z3⟩ := yok_step rp2 hY S2 hd hy
    obtain ⟨ρ4, n3, e4, e5⟩ := Mb_some e2
    obtain ⟨e4', rfl⟩ := Mo_some e4
    obtain ⟨f1, n5, e6, e7⟩ := Mb_some e5
    refine ⟨R3, ρ2, _, ds[i], ρ4, rp3, z3, e4', fun σ4 _ _ rp4 => ⟨R3, ρ4, _, f1, n5, rp4, e6, ?_⟩⟩
    have S13 := S2.trans g3.same
    cases f1 with
    | next ρ' => exact fun R' H' σ' rp' S' => ⟨R', ρ', n5, rp', S13.trans S', e7⟩
    | cont ρ' => exact fun R' H' σ' rp' S' => ⟨R', ρ', n5, rp', S13.trans S', e7⟩
    | brk ρ' => cases e7; exact fun R' H' σ' rp' S' => q R' H' σ' rp' ((S1.same.trans S13).trans S')
    | ret d => cases e7; exact q
  · rintro σ2 H2 ⟨R2, ρ2, n2, rp2, S2, e2⟩
    rw [List.drop_length] at e2
    cases e2
    exact q R2 H2 σ2 rp2 (S1.same.trans S2)⟩
/-! changes of owned lists -/
def sApp (i : Nat) (t : Ed) : Bd := fun ρ => Mb (eVar i ρ) fun l => Mb (t ρ) fun d => match l with
  | .lst xs => if xs.length < sizeLine then Mp (.next (ρ.set i (some (.lst (xs ++ [d]))))) else Mo none
  | _ => Mo none
theorem Rp.ownL {R H : Hp} {σ : L2.St} {ρ : Sd} {n : Sx} {i : Nat} {ds : List D} (h : Rp Γ R H σ ρ n) (hi : i ∈ Γ.ow) (e : ρ[i]? = some (some (.lst ds))) : ∃ a xs, σ[i]? = some (some (.ref a)) ∧ H a = some (.lst xs) ∧ R a = none ∧ Γ.H0 a = none ∧ xs.length ≤ sizeLine ∧ FzA Γ.c R xs ds ∧ a ∉ Γ.W.dom := by
  obtain ⟨a, o, h1, h2, h3, h4, h5⟩ := h.own i _ hi e
  cases h5 with
  | lst z f => exact ⟨a, _, h1, h2, h3, h4, z, f, fun m => h.hp.d0 a m h4⟩
theorem ds_app {i : Nat} {o a : Expr} {ta : Ed} {apos cpos : Pos} (ho : PE X o (tVar i)) (ha : DE X Γ a ta) (hio' : Γ.ow.contains i = true := by rfl) (hbase : attributeBase o "append" X.env (eval o X.env) = eval o X.env := by rfl) (hline : (apos.endLine == cpos.line) = true := by rfl) (hs : starEach [a] X.env = (false, eval a X.env) :: starEach [] X.env := by rfl)
    (hfew : ((backTo cpos (starEach [a] X.env)).all (fun x => !x.1) && (backToKw cpos (keywordEach [] X.env)).all (fun x => x.1.isSome) && decide ([a].length + ([] : List Keyword).length + (if ([] : List Keyword).isEmpty then 0 else 1) < 30)) = true := by rfl) (hpl : (backTo cpos (starEach [] X.env)).any (·.1) = false := by rfl)
    (hsw : swapsWith (.Call (.Attribute o "append" apos) [a] [] cpos) none pos.line X.env = pure false := by rfl) : DS X Γ (.Expr (.Call (.Attribute o "append" apos) [a] [] cpos) pos) (sApp i ta) :=
  have hio := mem_of hio'
  ⟨PS.wk (ps_expr (pe_bm PySem.F.plainAttrs_list PySem.F.slot_list_append PySem.F.type_list_append mt_append ho (pa_cons ha.p pa_nil hs) hbase hfew hline hs hpl) hsw) fun E σ H ⟨R, ρ, n, fl, n', rp, e, q⟩ => by
    obtain ⟨l, m, e1, e⟩ := Mb_some e
    obtain ⟨d, m2, e2, e⟩ := Mb_some e
    obtain ⟨e1', rfl⟩ := eVar_some e1
    cases l with
    | lst xs =>
      by_cases hz : xs.length < sizeLine
      · have e' : some (Fl.next (ρ.set i (some (.lst (xs ++ [d])))), m2) = some (fl, n') := by
          rw [← e]; show _ = (if xs.length < sizeLine then Mp (Fl.next (ρ.set i (some (.lst (xs ++ [d]))))) else Mo none) m2
          rw [if_pos hz]; rfl
        cases e'
        obtain ⟨la, us, h1, h2, h3, h4, h5, f, hd⟩ := rp.ownL hio e1'
        refine ⟨_, h1, .inl ⟨rfl, _, SqL.of h2⟩, R, ρ, _, d, _, rp, e2, fun v R1 H1 rp1 g1 z1 => ?_⟩
        obtain ⟨h2', h3'⟩ := g1.stay h2 hd h3
        have f1 := f.mono g1.le
        refine ⟨la, us, v, rfl, rfl, h2', by rw [f.len]; exact hz, q R1 _ σ (rp1.mut hio e1' h1 (.lst ?_ (f1.app (.cons z1 .nil)))) g1.same⟩
        rw [List.length_append, f.len]; exact hz
      · have e' : (none : Option (Fl × Sx)) = some (fl, n') := by
          rw [← e]; show _ = (if xs.length < sizeLine then Mp (Fl.next (ρ.set i (some (.lst (xs ++ [d]))))) else Mo none) m2
          rw [if_neg hz]; rfl
        cases e'
    | _ => cases e⟩
def fExt : D → D → Option D
  | .lst xs, .lst ys => szl (xs.length + ys.length) (.lst (xs ++ ys))
  | .lst xs, .tup ys => szl (xs.length + ys.length) (.lst (xs ++ ys))
  | _, _ => none
def sExt (i : Nat) (t : Ed) : Bd := fun ρ => Mb (eVar i ρ) fun l => Mb (t ρ) fun d => Mb (Mo (fExt l d)) fun r => Mp (.next (ρ.set i (some r)))
theorem ds_ext {i : Nat} {o a : Expr} {ta : Ed} {apos cpos : Pos} (ho : PE X o (tVar i)) (ha : DE X Γ a ta) (hio' : Γ.ow.contains i = true := by rfl) (hbase : attributeBase o "extend" X.env (eval o X.env) = eval o X.env := by rfl) (hline : (apos.endLine == cpos.line) = true := by rfl) (hs : starEach [a] X.env = (false, eval a X.env) :: starEach [] X.env := by rfl)
    (hfew : ((backTo cpos (starEach [a] X.env)).all (fun x => !x.1) && (backToKw cpos (keywordEach [] X.env)).all (fun x => x.1.isSome) && decide ([a].length + ([] : List Keyword).length + (if ([] : List Keyword).isEmpty then 0 else 1) < 30)) = true := by rfl) (hpl : (backTo cpos (starEach [] X.env)).any (·.1) = false := by rfl)
    (hsw : swapsWith (.Call (.Attribute o "extend" apos) [a] [] cpos) none pos.line X.env = pure false := by rfl) (hK : X.K = Γ.c.K := by rfl) : DS X Γ (.Expr (.Call (.Attribute o "extend" apos) [a] [] cpos) pos) (sExt i ta) := by
  have hio := mem_of hio'
  have P1 := ps_expr (pos := pos) (pe_bm PySem.F.plainAttrs_list PySem.F.slot_list_extend PySem.F.type_list_extend mt_extend ho (pa_cons ha.p pa_nil hs) hbase hfew hline hs hpl) hsw
  have P2 := ps_expr (pos := pos) (pe_bm PySem.F.plainAttrs_list PySem.F.slot_list_extend PySem.F.type_list_extend mt_extT ho (pa_cons ha.p pa_nil hs) hbase hfew hline hs hpl) hsw
  refine ⟨⟨fun pins s σ H E I ⟨R, ρ, n, fl, n', rp, e, q⟩ => ?_⟩⟩
  obtain ⟨l, m, e1, w1⟩ := Mb_some e
  obtain ⟨d, m2, e2, w2⟩ := Mb_some w1
  obtain ⟨rr, m3, e3, w3⟩ := Mb_some w2
  obtain ⟨e1', rfl⟩ := eVar_some e1
  obtain ⟨e3', rfl⟩ := Mo_some e3
  cases w3
  cases l with
  | lst xs =>
    obtain ⟨la, us, h1, h2, h3, h4, h5, f, hd⟩ := rp.ownL hio e1'
    cases d with
    | lst ys =>
      obtain ⟨hz, rfl⟩ := szl_some e3'
      refine P1.run pins s σ H E I ⟨_, h1, .inl ⟨rfl, _, SqL.of h2⟩, R, ρ, _, _, _, rp, e2, fun v R1 H1 rp1 g1 z1 => ?_⟩
      obtain ⟨h2', h3'⟩ := g1.stay h2 hd h3
      have f1 := f.mono g1.le
      obtain ⟨b, vs, rfl, hb, lb, fb⟩ := z1.lst_inv
      have hz' : us.length + vs.length ≤ sizeLine := by rw [f.len, fb.len]; exact hz
      exact ⟨la, b, us, vs, rfl, rfl, h2', rp1.hp.same.l hb, hz', q R1 _ σ (rp1.mut hio e1' h1 (.lst (by rw [List.length_append]; exact hz') (f1.app fb))) g1.same⟩
    | tup ys =>
      obtain ⟨hz, rfl⟩ := szl_some e3'
      refine P2.run pins s σ H E I ⟨_, h1, .inl ⟨rfl, _, SqL.of h2⟩, R, ρ, _, _, _, rp, e2, fun v R1 H1 rp1 g1 z1 => ?_⟩
      obtain ⟨h2', h3'⟩ := g1.stay h2 hd h3
      have f1 := f.mono g1.le
      obtain ⟨b, vs, rfl, hb, lb, fb⟩ := z1.tup_inv
      have hz' : us.length + vs.length ≤ sizeLine := by rw [f.len, fb.len]; exact hz
      exact ⟨la, b, us, vs, rfl, rfl, h2', hK ▸ rp1.hp.same.sqT hb, hz', q R1 _ σ (rp1.mut hio e1' h1 (.lst (by rw [List.length_append]; exact hz') (f1.app fb))) g1.same⟩
    | _ => cases e3'
  | _ => cases e3'
/-- target = xs.pop() -/
def fPop : D → Option (D × D)
  | .lst xs => xs.getLast?.map fun d => (d, .lst xs.dropLast)
  | _ => none
def sPop (i : Nat) (g : Gd) : Bd := fun ρ => Mb (eVar i ρ) fun l => Mb (Mo (fPop l)) fun p => Mb (Mo (g p.1 (ρ.set i (some p.2)))) fun ρ' => Mp (.next ρ')
theorem ds_pop {i : Nat} {o tg : Expr} {vs : List Nat} {g : Gd} {apos cpos : Pos} (ho : PE X o (tVar i)) (hg : DG X Γ tg vs g) (hio' : Γ.ow.contains i = true := by rfl) (hbase : attributeBase o "pop" X.env (eval o X.env) = eval o X.env := by rfl) (hline : (apos.endLine == cpos.line) = true := by rfl)
    (hs : swapsWithSole [tg] (.Call (.Attribute o "pop" apos) [] [] cpos) pos.line X.env = pure false := by rfl) (hw : swappedStores [tg] (.Call (.Attribute o "pop" apos) [] [] cpos) X.env = pure none := by rfl)
    (h1 : (assignEach [tg] X.env).map (·.2) = [assign tg X.env] := by rfl) : DS X Γ (.Assign [tg] (.Call (.Attribute o "pop" apos) [] [] cpos) pos) (sPop i g) :=
  have hio := mem_of hio'
  ⟨PS.wk (ps_asg (pe_bm0 PySem.F.plainAttrs_list PySem.F.slot_list_pop PySem.F.type_list_pop mt_pop ho hbase hline) hg.p hs hw h1) fun E σ H ⟨R, ρ, n, fl, n', rp, e, q⟩ => by
    obtain ⟨l, m, e1, w1⟩ := Mb_some e
    obtain ⟨p, m2, e2, w2⟩ := Mb_some w1
    obtain ⟨ρ1, m3, e3, w3⟩ := Mb_some w2
    obtain ⟨e1', rfl⟩ := eVar_some e1
    obtain ⟨e2', rfl⟩ := Mo_some e2
    obtain ⟨e3', rfl⟩ := Mo_some e3
    cases w3
    cases l with
    | lst xs =>
      obtain ⟨d, ed, rfl⟩ := Option.map_eq_some_iff.mp e2'
      obtain ⟨la, us, h1, h2, h3, h4, h5, f, hd⟩ := rp.ownL hio e1'
      obtain ⟨ys, rfl⟩ : ∃ ys, xs = ys ++ [d] := List.getLast?_eq_some_iff.mp ed
      obtain ⟨us0, u, rfl, f0, z0⟩ := f.snoc_inv
      refine ⟨_, h1, .inl ⟨rfl, _, SqL.of h2⟩, la, us0 ++ [u], u, rfl, rfl, h2, by rw [List.length_append]; simp, ?_⟩
      rw [List.dropLast_concat]
      have e4 : (ys ++ [d]).dropLast = ys := List.dropLast_concat
      rw [e4] at e3'
      refine ⟨R, ρ.set i (some (.lst ys)), _, d, ρ1, rp.mut hio e1' h1 (.lst ?_ f0), z0, e3', fun σ' _ _ rp' => q R _ σ' rp' (Same.refl _)⟩
      rw [List.length_append] at h5
      omega
    | _ => cases e2'⟩
/-- name += e -/
def sAug (i : Nat) (f : D → D → Option D) (t : Ed) : Bd := fun ρ => Mb (eVar i ρ) fun x => Mb (t ρ) fun y => Mb (Mo (f x y)) fun z => Mp (.next (ρ.set i (some z)))
def fAddI : D → D → Option D
  | .int i, .int j => some (.int (i + j))
  | _, _ => none
theorem ds_augI {i : Nat} {x : Str} {e : Expr} {t : Ed} {pos' : Pos} (hN : X.N.Nodup) (hi : X.N[i]? = some x) (hx : Loc X.env.scope x) (h : DE X Γ e t) (hio' : Γ.ow.contains i = false := by rfl) (hf : X.fn x = true ∨ X.env.scope.names.lookup x = some .local := by first | exact .inl rfl | exact .inr rfl) :
    DS X Γ (.AugAssign (.Name x pos') .Add e pos) (sAug i fAddI t) := have hio := nmem_of hio'; ⟨PS.wk (ps_aug hN hi hx h.p ip_add hf) fun E σ H ⟨R, ρ, n, fl, n', rp, e, q⟩ => by
  obtain ⟨l, m, e1, w1⟩ := Mb_some e
  obtain ⟨d, m2, e2, w2⟩ := Mb_some w1
  obtain ⟨rr, m3, e3, w3⟩ := Mb_some w2
  obtain ⟨e1', rfl⟩ := eVar_some e1
  obtain ⟨e3', rfl⟩ := Mo_some e3
  cases w3
  obtain ⟨v, h1, h2⟩ := rp.fz i l hio e1'
  refine ⟨v, h1, R, ρ, _, d, _, rp, e2, fun u R1 H1 rp1 g1 z1 => ?_⟩
  cases h2 with
  | int i1 => cases z1 with
    | int j1 => cases e3'; exact ⟨i1, j1, rfl, rfl, q R1 H1 _ (rp1.set hio (.int _)) g1.same⟩
    | _ => cases e3'
  | _ => cases e3'⟩
end
/-! a def -/
def fnS (k : Nat) (t : Bd) (ds : List D) : M D := fun n => match t (ds.map some ++ List.replicate (k - ds.length) none) n with
  | some (.ret d, n') => some (d, n')
  | some (.next _, n') => some (.non, n')
  | _ => none
def fnA (a k : Nat) (t : Bd) (ds : List D) : M D := fun n => if ds.length = a then fnS k t ds n else none
theorem rp_start {c : Cn} {W : Wd} {ow : List Nat} {H R : Hp} {n : Sx} {N : List Str} {vs : List V} {ds : List D} (hl : ∀ i ∈ ow, vs.length ≤ i) (f : FzA c R vs ds) (h : HpOk ⟨c, W, [], H, R⟩ R H n) : Rp ⟨c, W, ow, H, R⟩ R H (L2.start N vs) (ds.map some ++ List.replicate (N.length - ds.length) none) n := by
  have e0 : ∀ i d, (ds.map some ++ List.replicate (N.length - ds.length) (none : Option D))[i]? = some (some d) → ds[i]? = some d := fun i d e => by
    by_cases hi : i < ds.length
    · rw [List.getElem?_append_left (by rw [List.length_map]; exact hi), List.getElem?_map, List.getElem?_eq_getElem hi] at e
      rw [List.getElem?_eq_getElem hi]
      simpa using e
    · rw [List.getElem?_append_right (by rw [List.length_map]; omega), List.getElem?_replicate] at e
      split at e <;> cases e
  refine ⟨?_, fun i d _ e => ?_, fun i d hi e => ?_, fun i j a d1 d2 hi hj e1 => ?_, ⟨h.same, h.dj, h.d0, h.wd, h.keep, h.r0, h.new, h.m⟩⟩
  · unfold L2.start
    rw [List.length_append, List.length_append, List.length_map, List.length_map, List.length_replicate, List.length_replicate, f.len]
  · obtain ⟨v, h1, h2⟩ := f.get (e0 i d e)
    refine ⟨v, ?_, h2⟩
    have hi : i < vs.length := (List.getElem?_eq_some_iff.mp h1).1
    unfold L2.start
    rw [List.getElem?_append_left (by rw [List.length_map]; exact hi), List.getElem?_map, h1]
    rfl
  · have h1 := (List.getElem?_eq_some_iff.mp (e0 i d e)).1
    have h2 := hl i hi
    rw [f.len] at h2
    omega
  · have h1 := (List.getElem?_eq_some_iff.mp (e0 i d1 e1)).1
    have h2 := hl i hi
    rw [f.len] at h2
    omega
/-- a def's promise by its body -/
theorem fn_ok {P : Program} {w : World} {K : PySem.W.Frag} {mg : Str → Option Value} {base : Heap} {x qual : Str} {params : Arguments} {body : List Stmt} {scope : Scope} {dvs : List V} {kws : List (Str × V)} {fa : Addr} {fd : FuncData} {N ps : List Str} {k : Nat} {c : Cn} {W : Wd} {t : Bd} (ow : List Nat)
    (F : FunD K x qual params body scope dvs kws fa fd) (S : FnScope N ps scope) (how : ow.all (fun i => ps.length ≤ i) = true)
    (hb : ∀ (cdv : Value) (A : Around) (outer : List Env) (s : Shared) (H : Hp) (E : XK) (R : Hp), Room k (A.deeper (PyProof.Rows.envOfC qual scope s.heap.objs.size fa cdv)) → DB (cxOf CX0 P w K mg base N qual scope fa cdv A outer s H E).nox ⟨c, W, ow, H, R⟩ body t) :
    FnOk P w K mg base CX0 (k + 1) fa fd ps (spM c W (fnA ps.length N.length t)) := by
  refine F.ok S (fun vs H Q E h => ?_) (fun cdv A outer s H vs Q E hr h => ?_)
  · obtain ⟨R, ds, r, n, n', f, _, e, _⟩ := h
    rw [f.len]; exact (ite_some e).1
  · obtain ⟨R, ds, r, n, n', f, hp, e, q⟩ := h
    obtain ⟨hl, e⟩ := ite_some e
    · refine ⟨_, PSs.nox (hb cdv A outer s H E R hr).p, ?_⟩
      unfold fnS at e
      have rp := rp_start (c := c) (W := W) (ow := ow) (N := N) (fun i hi => by
        have := List.all_eq_true.mp how i hi
        rw [f.len, hl]; exact of_decide_eq_true this) f hp
      cases e1 : t (ds.map some ++ List.replicate (N.length - ds.length) none) n with
      | none => rw [e1] at e; cases e
      | some p =>
        obtain ⟨fl, m⟩ := p
        rw [e1] at e
        refine ⟨R, _, n, fl, m, rp, e1, ?_⟩
        cases fl with
        | ret d => cases e; exact fun v R' H' k z => q v R' H' ⟨k.same, k.dj, k.d0, k.wd, k.keep, k.r0, k.new, k.m⟩ z
        | next ρ => cases e; exact fun R' H' σ' rp' S' => q .non R' H' ⟨rp'.hp.same, rp'.hp.dj, rp'.hp.d0, rp'.hp.wd, rp'.hp.keep, rp'.hp.r0, rp'.hp.new, rp'.hp.m⟩ .non
        | brk ρ => cases e
        | cont ρ => cases e
end Sh

set_option Elab.async false
set_option linter.all false
set_option maxRecDepth 100000
namespace Sh
open PySem L2 Nf
/-- a module's constant -/
def GlobD (K : PySem.W.Frag) (mg : Str → Option Value) (x : Str) (d : D) : Prop := ∃ v u, mg x = some u ∧ RelV v u ∧ ∀ dk R, Fz ⟨K, dk⟩ R v d
theorem d_glob {X : Cx} {Γ : Gm} {x : Str} {d : D} {pos : Pos} (hg : Gl X x) (h : GlobD X.K X.mg x d) (hK : X.K = Γ.c.K := by rfl) (hd : (x == ("__debug__" : Str)) = false := by decide) : DE X Γ (.Name x pos) (eC d) := by
  obtain ⟨v, u, hm, r, hv⟩ := h
  refine d_c (pe_glob hg hm r hd) fun R => ?_
  have := hv Γ.c.dk R
  rw [hK] at this
  exact this
end Sh

set_option Elab.async false
set_option linter.all false
set_option maxRecDepth 100000
/-! going through functions over data -/
namespace Sh
open PySem L2 Nf
section
variable {ρ ρ' : Sd} {n m m' : Sx} {t u : Bd} {d x y z : D} {a b c : Ed} {r : Option (Fl × Sx)}
theorem fn_ret {k j : Nat} {ds : List D} (hl : ds.length = k) (h : t (ds.map some ++ List.replicate (j - ds.length) none) n = some (.ret d, m)) : fnA k j t ds n = some (d, m) := by
  unfold fnA fnS; rw [if_pos hl, h]
theorem fn_none {k j : Nat} {ds : List D} (hl : ds.length = k) (h : t (ds.map some ++ List.replicate (j - ds.length) none) n = some (.next ρ, m)) : fnA k j t ds n = some (.non, m) := by
  unfold fnA fnS; rw [if_pos hl, h]
theorem bSeq_n (h : t ρ n = some (.next ρ', m)) : bSeq t u ρ n = u ρ' m := by unfold bSeq Mb; rw [h]
theorem bSeq_r (h : t ρ n = some (.ret d, m)) : bSeq t u ρ n = some (.ret d, m) := by unfold bSeq Mb; rw [h]; rfl
theorem bSeq_c (h : t ρ n = some (.cont ρ', m)) : bSeq t u ρ n = some (.cont ρ', m) := by unfold bSeq Mb; rw [h]; rfl
theorem sSet_n {i : Nat} (h : a ρ n = some (d, m)) : sSet i a ρ n = some (.next (ρ.set i (some d)), m) := by unfold sSet Mb; rw [h]; rfl
theorem sRet_r (h : a ρ n = some (d, m)) : sRet a ρ n = some (.ret d, m) := by unfold sRet Mb; rw [h]; rfl
theorem sIf_t {c : Td} (h : c ρ n = some (true, m)) : sIf c t u ρ n = t ρ m := by unfold sIf Mb; rw [h]; rfl
theorem sIf_f {c : Td} (h : c ρ n = some (false, m)) : sIf c t u ρ n = u ρ m := by unfold sIf Mb; rw [h]; rfl
theorem sFor_i {ti : Id'} {g : Gd} {ds : List D} (h : ti ρ n = some (ds, m)) : sFor ti g t ρ n = fM g t ds ρ m := by unfold sFor Mb; rw [h]
theorem fM_nil {g : Gd} : fM g t [] ρ n = some (.next ρ, n) := rfl
theorem fM_next {g : Gd} {ds : List D} {ρ1 : Sd} (h : g d ρ = some ρ1) (k : t ρ1 n = some (.next ρ', m)) : fM g t (d :: ds) ρ n = fM g t ds ρ' m := by
  simp only [fM, Mb, h, Mo, Option.map_some, k]
theorem fM_cont {g : Gd} {ds : List D} {ρ1 : Sd} (h : g d ρ = some ρ1) (k : t ρ1 n = some (.cont ρ', m)) : fM g t (d :: ds) ρ n = fM g t ds ρ' m := by
  simp only [fM, Mb, h, Mo, Option.map_some, k]
theorem fM_ret {g : Gd} {ds : List D} {ρ1 : Sd} {e : D} (h : g d ρ = some ρ1) (k : t ρ1 n = some (.ret e, m)) : fM g t (d :: ds) ρ n = some (.ret e, m) := by
  simp only [fM, Mb, h, Mo, Option.map_some, k]; rfl
theorem e1_e {f : D → Option D} (h : a ρ n = some (x, m)) (k : f x = some y) : e1 f a ρ n = some (y, m) := by unfold e1 Mb; rw [h]; simp only [Mo, k, Option.map_some]
theorem e2_e {f : D → D → Option D} (h : a ρ n = some (x, m)) (h2 : b ρ m = some (y, m')) (k : f x y = some z) : e2 f a b ρ n = some (z, m') := by
  unfold e2 Mb; rw [h]; simp only [h2]; simp only [Mo, k, Option.map_some]
theorem trB_e {b : Bool} (h : a ρ n = some (x, m)) (k : fTr x = some b) : trB a ρ n = some (b, m) := by unfold trB Mb; rw [h]; simp only [Mo, k, Option.map_some]
theorem tNt_e {c : Td} {b : Bool} (h : c ρ n = some (b, m)) : tNt c ρ n = some (!b, m) := by unfold tNt Mb; rw [h]; rfl
theorem tAn_f {c e : Td} (h : c ρ n = some (false, m)) : tAn c e ρ n = some (false, m) := by unfold tAn Mb; rw [h]; rfl
theorem tAn_t {c e : Td} (h : c ρ n = some (true, m)) : tAn c e ρ n = e ρ m := by unfold tAn Mb; rw [h]; rfl
theorem tOr_f {c e : Td} (h : c ρ n = some (false, m)) : tOr' c e ρ n = e ρ m := by unfold tOr' Mb; rw [h]; rfl
theorem tOr_t {c e : Td} (h : c ρ n = some (true, m)) : tOr' c e ρ n = some (true, m) := by unfold tOr' Mb; rw [h]; rfl
theorem aCons_e {t : Ad} {ds : List D} (h : a ρ n = some (d, m)) (k : t ρ m = some (ds, m')) : aCons a t ρ n = some (d :: ds, m') := by
  unfold aCons Mb; rw [h]; simp only [k]; rfl
theorem aNil_e : aNil ρ n = some ([], n) := rfl
theorem eCall_e {f : List D → M D} {t : Ad} {ds : List D} (h : t ρ n = some (ds, m)) (k : f ds m = some (d, m')) : eCall f t ρ n = some (d, m') := by unfold eCall Mb; rw [h]; exact k
theorem eTup_e {t : Ad} {ds : List D} (h : t ρ n = some (ds, m)) : eTup t ρ n = some (.tup ds, m) := by unfold eTup Mb; rw [h]; rfl
theorem eLst_e {t : Ad} {ds : List D} (h : t ρ n = some (ds, m)) : eLst t ρ n = some (.lst ds, m) := by unfold eLst Mb; rw [h]; rfl
theorem eF_e {f : List D → Option D} {t : Ad} {ds : List D} (h : t ρ n = some (ds, m)) (k : f ds = some d) : eF f t ρ n = some (d, m) := by unfold eF Mb; rw [h]; simp only [Mo, k, Option.map_some]
theorem iSeq_e {ds : List D} (h : a ρ n = some (x, m)) (k : fItems x = some ds) : iSeq a ρ n = some (ds, m) := by unfold iSeq Mb; rw [h]; simp only [Mo, k, Option.map_some]
theorem i1_e {f : D → Option (List D)} {ds : List D} (h : a ρ n = some (x, m)) (k : f x = some ds) : i1 f a ρ n = some (ds, m) := by unfold i1 Mb; rw [h]; simp only [Mo, k, Option.map_some]
theorem i2_e {f : D → D → Option (List D)} {ds : List D} (h : a ρ n = some (x, m)) (h2 : b ρ m = some (y, m')) (k : f x y = some ds) : i2 f a b ρ n = some (ds, m') := by
  unfold i2 Mb; rw [h]; simp only [h2]; simp only [Mo, k, Option.map_some]
theorem eLc_e {ti : Id'} {g : Gd} {tt : Td} {te : Ed} {vs : List Nat} {ds rs : List D} (h : ti ρ n = some (ds, m)) (k : lcM g tt te (wipeD ρ vs) ds m = some (rs, m')) : eLc ti g tt te vs ρ n = some (.lst rs, m') := by
  unfold eLc Mb; rw [h]; simp only [k]; rfl
theorem lcM_cons {g : Gd} {te : Ed} {ds rs : List D} {ρ1 : Sd} (h : g d ρ = some ρ1) (k : te ρ1 n = some (y, m)) (j : lcM g tY te ρ ds m = some (rs, m')) : lcM g tY te ρ (d :: ds) n = some (y :: rs, m') := by
  simp only [lcM, Mb, h, Mo, Option.map_some, tY, Mp, k, if_true, j]
theorem sAsg_n {g : Gd} (h : a ρ n = some (d, m)) (k : g d ρ = some ρ') : sAsg a g ρ n = some (.next ρ', m) := by unfold sAsg Mb; rw [h]; simp only [Mo, k, Option.map_some]; rfl
/-- a comprehension whose elements are pure -/
theorem lcM_map {α : Type} {g : Gd} {te : Ed} {f : α → D} {h : α → D} {n : Sx} : ∀ (xs : List α), (∀ x ∈ xs, ∃ ρ1, g (f x) ρ = some ρ1 ∧ te ρ1 n = some (h x, n)) → lcM g tY te ρ (xs.map f) n = some (xs.map h, n)
  | [], _ => rfl
  | x :: r, q => by
    obtain ⟨ρ1, h1, h2⟩ := q x (by simp)
    exact lcM_cons h1 h2 (lcM_map r fun y hy => q y (by simp [hy]))
theorem items_tup {ds : List D} (h : ds.length ≤ 1000000) : fItems (.tup ds) = some ds := by
  show szl ds.length ds = _; unfold szl; rw [if_pos (by rw [PySem.sizeLine_eq]; omega)]
theorem items_lst {ds : List D} (h : ds.length ≤ 1000000) : fItems (.lst ds) = some ds := by
  show szl ds.length ds = _; unfold szl; rw [if_pos (by rw [PySem.sizeLine_eq]; omega)]
theorem eq_str {x y : Str} : fEq (.str x) (.str y) = some (.bl (decide (x = y))) := rfl
theorem ne_str {x y : Str} : fNe (.str x) (.str y) = some (.bl (!decide (x = y))) := rfl
theorem eq_int {x y : Int} : fEq (.int x) (.int y) = some (.bl (decide (x = y))) := rfl
end
section
variable {ρ ρ' : Sd} {n m m' : Sx} {f i : Nat} {t : Bd} {d x y z : D} {a : Ed} {c : Td} {g : Gd} {xs ys : List D}
theorem wM_t (h : c ρ n = some (true, m)) (k : t ρ m = some (.next ρ', m')) : wM c t (f + 1) ρ n = wM c t f ρ' m' := by
  simp only [wM, Mb, h, if_true, k]
theorem wM_c (h : c ρ n = some (true, m)) (k : t ρ m = some (.cont ρ', m')) : wM c t (f + 1) ρ n = wM c t f ρ' m' := by
  simp only [wM, Mb, h, if_true, k]
theorem wM_r (h : c ρ n = some (true, m)) (k : t ρ m = some (.ret d, m')) : wM c t (f + 1) ρ n = some (.ret d, m') := by
  simp only [wM, Mb, h, if_true, k]; rfl
theorem wM_f (h : c ρ n = some (false, m)) : wM c t (f + 1) ρ n = some (.next ρ, m) := by
  simp only [wM, Mb, h, Bool.false_eq_true, if_false]; rfl
theorem eVar_e (h : ρ[i]? = some (some d)) : eVar i ρ n = some (d, n) := by unfold eVar; rw [h]
theorem sPop_n (h : ρ[i]? = some (some (.lst (xs ++ [d])))) (k : g d (ρ.set i (some (.lst xs))) = some ρ') : sPop i g ρ n = some (.next ρ', n) := by
  have e : fPop (.lst (xs ++ [d])) = some (d, .lst xs) := by
    show ((xs ++ [d]).getLast?).map _ = _
    rw [List.getLast?_concat, Option.map_some, List.dropLast_concat]
  unfold sPop Mb
  rw [eVar_e h]
  simp only [Mo, e, Option.map_some, k]
  rfl
theorem sExt_l (h : ρ[i]? = some (some (.lst xs))) (ha : a ρ n = some (.lst ys, m)) (hz : xs.length + ys.length ≤ 1000000) : sExt i a ρ n = some (.next (ρ.set i (some (.lst (xs ++ ys)))), m) := by
  have e : fExt (.lst xs) (.lst ys) = some (.lst (xs ++ ys)) := by
    show szl _ _ = _; unfold szl; rw [if_pos (by rw [PySem.sizeLine_eq]; omega)]
  unfold sExt Mb
  rw [eVar_e h]
  simp only [ha, Mo, e, Option.map_some]
  rfl
theorem sExt_t (h : ρ[i]? = some (some (.lst xs))) (ha : a ρ n = some (.tup ys, m)) (hz : xs.length + ys.length ≤ 1000000) : sExt i a ρ n = some (.next (ρ.set i (some (.lst (xs ++ ys)))), m) := by
  have e : fExt (.lst xs) (.tup ys) = some (.lst (xs ++ ys)) := by
    show szl _ _ = _; unfold szl; rw [if_pos (by rw [PySem.sizeLine_eq]; omega)]
  unfold sExt Mb
  rw [eVar_e h]
  simp only [ha, Mo, e, Option.map_some]
  rfl
theorem sApp_n (h : ρ[i]? = some (some (.lst xs))) (ha : a ρ n = some (d, m)) (hz : xs.length < 1000000) : sApp i a ρ n = some (.next (ρ.set i (some (.lst (xs ++ [d])))), m) := by
  unfold sApp Mb
  rw [eVar_e h]
  simp only [ha]
  rw [if_pos (by rw [PySem.sizeLine_eq]; omega)]
  rfl
theorem sAug_n {j k : Int} (h : ρ[i]? = some (some (.int j))) (ha : a ρ n = some (.int k, m)) : sAug i fAddI a ρ n = some (.next (ρ.set i (some (.int (j + k)))), m) := by
  unfold sAug Mb
  rw [eVar_e h]
  simp only [ha, Mo, fAddI, Option.map_some]
  rfl
theorem add_lst (h : xs.length + ys.length ≤ 1000000) : fAdd (.lst xs) (.lst ys) = some (.lst (xs ++ ys)) := by
  show szl _ _ = _; unfold szl; rw [if_pos (by rw [PySem.sizeLine_eq]; omega)]
theorem add_tup (h : xs.length + ys.length ≤ 1000000) : fAdd (.tup xs) (.tup ys) = some (.tup (xs ++ ys)) := by
  show szl _ _ = _; unfold szl; rw [if_pos (by rw [PySem.sizeLine_eq]; omega)]
theorem add_str {x y : Str} (h : x.length + y.length ≤ 1000000) : fAdd (.str x) (.str y) = some (.str (x ++ y)) := by
  show szl _ _ = _; unfold szl; rw [if_pos (by rw [PySem.sizeLine_eq]; omega)]
theorem zip_tup (h : xs.length ≤ 1000000) : fZip (.tup xs) (.tup ys) = some (prs xs ys) := by
  show szl _ _ = _; unfold szl; rw [if_pos (by rw [PySem.sizeLine_eq]; omega)]
theorem mod_i {i j : Int} (h : 0 < j) : fMod (.int i) (.int j) = some (.int (i % j)) := if_pos h
theorem div_i {i j : Int} (h : 0 < j ∧ j < 1073741824) : fDiv (.int i) (.int j) = some (.int (i / j)) := if_pos h
theorem vAn_t {b : Ed} (h : a ρ n = some (x, m)) (k : fTr x = some true) : vAn a b ρ n = b ρ m := by unfold vAn Mb; rw [h]; simp only [Mo, k, Option.map_some, if_true]
theorem vAn_f {b : Ed} (h : a ρ n = some (x, m)) (k : fTr x = some false) : vAn a b ρ n = some (x, m) := by unfold vAn Mb; rw [h]; simp only [Mo, k, Option.map_some, Bool.false_eq_true, if_false]; rfl
theorem vOr_f {b : Ed} (h : a ρ n = some (x, m)) (k : fTr x = some false) : vOr a b ρ n = b ρ m := by unfold vOr Mb; rw [h]; simp only [Mo, k, Option.map_some, Bool.false_eq_true, if_false]
theorem vOr_t {b : Ed} (h : a ρ n = some (x, m)) (k : fTr x = some true) : vOr a b ρ n = some (x, m) := by unfold vOr Mb; rw [h]; simp only [Mo, k, Option.map_some, if_true]; rfl
theorem vIf_t {c : Td} {b : Ed} (h : c ρ n = some (true, m)) : vIf c a b ρ n = a ρ m := by unfold vIf Mb; rw [h]; rfl
theorem vIf_f {c : Td} {b : Ed} (h : c ρ n = some (false, m)) : vIf c a b ρ n = b ρ m := by unfold vIf Mb; rw [h]; rfl
theorem tEq_t {b : Ed} {x y : Str} (h : a ρ n = some (.str x, m)) (k : b ρ m = some (.str y, m)) (e : x = y := by rfl) : trB (e2 fEq a b) ρ n = some (true, m) := trB_e (e2_e h k eq_str) (by show some (decide (x = y)) = _; rw [decide_eq_true e])
theorem tEq_f {b : Ed} {x y : Str} (h : a ρ n = some (.str x, m)) (k : b ρ m = some (.str y, m)) (e : ¬ x = y := by decide +kernel) : trB (e2 fEq a b) ρ n = some (false, m) := trB_e (e2_e h k eq_str) (by show some (decide (x = y)) = _; rw [decide_eq_false e])
theorem tNe_f {b : Ed} {x y : Str} (h : a ρ n = some (.str x, m)) (k : b ρ m = some (.str y, m)) (e : x = y := by rfl) : trB (e2 fNe a b) ρ n = some (false, m) := trB_e (e2_e h k ne_str) (by show some (!decide (x = y)) = _; rw [decide_eq_true e]; rfl)
theorem tNe_t {b : Ed} {x y : Str} (h : a ρ n = some (.str x, m)) (k : b ρ m = some (.str y, m)) (e : ¬ x = y := by decide +kernel) : trB (e2 fNe a b) ρ n = some (true, m) := trB_e (e2_e h k ne_str) (by show some (!decide (x = y)) = _; rw [decide_eq_false e]; rfl)
theorem tEqI_t {b : Ed} {x y : Int} (h : a ρ n = some (.int x, m)) (k : b ρ m = some (.int y, m)) (e : x = y) : trB (e2 fEq a b) ρ n = some (true, m) := trB_e (e2_e h k eq_int) (by show some (decide (x = y)) = _; rw [decide_eq_true e])
theorem tEqI_f {b : Ed} {x y : Int} (h : a ρ n = some (.int x, m)) (k : b ρ m = some (.int y, m)) (e : ¬ x = y) : trB (e2 fEq a b) ρ n = some (false, m) := trB_e (e2_e h k eq_int) (by show some (decide (x = y)) = _; rw [decide_eq_false e])
theorem eFl_e (h : a ρ n = some (d, m)) (k : d.flat = true) : eFl a ρ n = some (d, m) := by
  unfold eFl Mb
  rw [h]
  simp only [k, if_true]
  rfl
end
/-- a loop that goes to its end, by an invariant -/
theorem fM_inv {g : Gd} {b : Bd} (I : Nat → Sd → Sx → Prop) : ∀ (ds : List D) (i : Nat) (ρ : Sd) (n : Sx), I i ρ n → (∀ j d ρ n, ds[j]? = some d → I (i + j) ρ n → ∃ ρ1 ρ' n', g d ρ = some ρ1 ∧ b ρ1 n = some (.next ρ', n') ∧ I (i + j + 1) ρ' n') → ∃ ρ' n', fM g b ds ρ n = some (.next ρ', n') ∧ I (i + ds.length) ρ' n'
  | [], i, ρ, n, h, _ => ⟨ρ, n, rfl, h⟩
  | d :: r, i, ρ, n, h, hs => by
    obtain ⟨ρ1, ρ', n', h1, h2, h3⟩ := hs 0 d ρ n rfl h
    obtain ⟨ρ2, n2, h4, h5⟩ := fM_inv I r (i + 1) ρ' n' h3 fun j d ρ n hj hI => by
      have := hs (j + 1) d ρ n (by simpa using hj) (by rw [show i + (j + 1) = i + 1 + j by omega]; exact hI)
      rw [show i + (j + 1) + 1 = i + 1 + j + 1 by omega] at this
      exact this
    exact ⟨ρ2, n2, by rw [fM_next h1 h2]; exact h4, by rw [List.length_cons, show i + (r.length + 1) = i + 1 + r.length by omega]; exact h5⟩
/-! pieces with draws and shared objects: from a store by P to a value and a store by Q, within so many draws -/
def Ds {α : Type} (x : M α) (P : List D → Prop) (c : Nat) (Q : α → List D → Prop) : Prop := ∀ n ms, P ms → n + c ≤ 2 ^ 40 → ∃ a m ms', x (n, ms) = some (a, m, ms') ∧ m ≤ n + c ∧ Q a ms'
theorem Ds.bind {α β : Type} {x : M α} {f : α → M β} {c e : Nat} {P : List D → Prop} {Q : α → List D → Prop} {R : β → List D → Prop} (h : Ds x P c Q) (k : ∀ a, Ds (f a) (Q a) e R) : Ds (Mb x f) P (c + e) R := fun n ms hp hn => by
  obtain ⟨a, m, ms1, h1, h2, h3⟩ := h n ms hp (by omega)
  obtain ⟨b, m', ms2, k1, k2, k3⟩ := k a m ms1 h3 (by omega)
  exact ⟨b, m', ms2, by rw [Mb_eq h1]; exact k1, by omega, k3⟩
theorem Ds.pure {α : Type} {a : α} {P : List D → Prop} {c : Nat} {Q : α → List D → Prop} (h : ∀ ms, P ms → Q a ms) : Ds (Mp a) P c Q := fun n ms hp _ => ⟨a, n, ms, rfl, by omega, h ms hp⟩
theorem Ds.mono {α : Type} {x : M α} {P P' : List D → Prop} {c e : Nat} {Q R : α → List D → Prop} (h : Ds x P c Q) (hp : ∀ ms, P' ms → P ms) (hc : c ≤ e) (k : ∀ a ms, Q a ms → R a ms) : Ds x P' e R := fun n ms hm hn => by
  obtain ⟨a, m, ms', h1, h2, h3⟩ := h n ms (hp ms hm) (by omega)
  exact ⟨a, m, ms', h1, by omega, k a ms' h3⟩
/-- a comprehension whose elements draw and change: the i-th by its place -/
theorem Ds.lc {g : Gd} {te : Ed} {ρ : Sd} {α : Type} {f : α → D} {c : Nat} (I : List D → List D → Prop) : ∀ (xs : List α) (ys0 : List D), (∀ x ∈ xs, ∀ ys, ys.length < ys0.length + xs.length → ∃ ρ1, g (f x) ρ = some ρ1 ∧ Ds (te ρ1) (I ys) c fun y ms => I (ys ++ [y]) ms) →
    Ds (lcM g tY te ρ (xs.map f)) (I ys0) (xs.length * c) fun ys ms => ys.length = xs.length ∧ I (ys0 ++ ys) ms
  | [], ys0, h => fun n ms hp hn => ⟨[], n, ms, rfl, by simp, rfl, by rw [List.append_nil]; exact hp⟩
  | x :: r, ys0, h => fun n ms hp hn => by
    rw [List.length_cons, Nat.succ_mul] at hn
    obtain ⟨ρ1, h1, h2⟩ := h x (by simp) ys0 (by simp)
    obtain ⟨y, m, ms1, h3, h4, h5⟩ := h2 n ms hp (by omega)
    obtain ⟨ys, m', ms2, h6, h7, h8, h9⟩ := Ds.lc I r (ys0 ++ [y]) (fun z hz ys hl => h z (by simp [hz]) ys (by simp at hl ⊢; omega)) m ms1 h5 (by omega)
    exact ⟨y :: ys, m', ms2, lcM_cons h1 h3 h6, by rw [List.length_cons, Nat.succ_mul]; omega, by simp [h8], by rw [List.append_assoc] at h9; exact h9⟩
/-- nothing is changed but the draws -/
abbrev Dr {α : Type} (x : M α) (c : Nat) (Q : α → Prop) : Prop := ∀ ms, Ds x (· = ms) c fun a ms' => ms' = ms ∧ Q a
theorem Dr.bind {α β : Type} {x : M α} {f : α → M β} {c e : Nat} {Q : α → Prop} {R : β → Prop} (h : Dr x c Q) (k : ∀ a, Q a → Dr (f a) e R) : Dr (Mb x f) (c + e) R := fun ms => (h ms).bind fun a n ms' hp hn => k a hp.2 ms n ms' hp.1 hn
theorem Dr.pure {α : Type} {a : α} {c : Nat} {Q : α → Prop} (h : Q a) : Dr (Mp a) c Q := fun ms => Ds.pure fun _ e => ⟨e, h⟩
theorem Dr.mono {α : Type} {x : M α} {c e : Nat} {Q R : α → Prop} (h : Dr x c Q) (hc : c ≤ e) (k : ∀ a, Q a → R a) : Dr x e R := fun ms => (h ms).mono (fun _ e => e) hc fun a _ q => ⟨q.1, k a q.2⟩
theorem Dr.of {α : Type} {x : M α} {a : α} {c : Nat} {Q : α → Prop} (h : ∀ n, x n = some (a, n)) (q : Q a) : Dr x c Q := fun ms n ms' e _ => ⟨a, n, ms', h _, by omega, e, q⟩
/-- a comprehension with draws: each element by P -/
theorem Dr.lc {g : Gd} {te : Ed} {ρ : Sd} {α : Type} {f : α → D} {c : Nat} (P : D → Prop) (xs : List α) (h : ∀ x ∈ xs, ∃ ρ1, g (f x) ρ = some ρ1 ∧ Dr (te ρ1) c P) : Dr (lcM g tY te ρ (xs.map f)) (xs.length * c) fun ys => ys.length = xs.length ∧ ∀ y ∈ ys, P y := fun ms => by
  refine (Ds.lc (c := c) (fun ys ms' => ms' = ms ∧ ∀ y ∈ ys, P y) xs [] fun x hx ys _ => ?_).mono (fun _ e => ⟨e, by simp⟩) (Nat.le_refl _) fun ys ms' q => ⟨q.2.1, q.1, by simpa using q.2.2⟩
  obtain ⟨ρ1, h1, h2⟩ := h x hx
  refine ⟨ρ1, h1, fun n ms' e hn => ?_⟩
  obtain ⟨y, m, ms2, k1, k2, k3, k4⟩ := h2 ms n ms' e.1 hn
  exact ⟨y, m, ms2, k1, k2, k3, fun z hz => (List.mem_append.mp hz).elim (e.2 z) fun hz => (List.mem_singleton.mp hz) ▸ k4⟩
end Sh

set_option Elab.async false
set_option linter.all false
set_option maxRecDepth 100000
/-! dicts: looked up, asked, written -/
namespace Sh
open PySem L2 Nf
def keyD : D → Option Key
  | .int i => some (.inl i)
  | .str x => some (.inr x)
  | _ => none
def dval : List Key → List D → Key → Option D
  | k' :: ks, d :: ds, k => if k' = k then some d else dval ks ds k
  | _, _, _ => none
theorem Fz.key {c : Cn} {R : Hp} {v : V} {d : D} {k : Key} (h : Fz c R v d) (e : keyD d = some k) : v = kV k := by
  cases h <;> first | (cases e; rfl) | cases e
theorem FzA.dv {c : Cn} {R : Hp} {k : Key} : ∀ {kvs : List (Key × V)} {ds : List D}, FzA c R (kvs.map Prod.snd) ds → match dval (kvs.map Prod.fst) ds k with
    | some d => ∃ v, valV kvs k = some v ∧ Fz c R v d
    | none => valV kvs k = none
  | [], _, .nil => rfl
  | p :: r, _, .cons (d := d) (ds := ds) h q => by
    show match (if p.1 = k then some d else dval (r.map Prod.fst) ds k) with
      | some d => ∃ v, valV (p :: r) k = some v ∧ Fz c R v d
      | none => valV (p :: r) k = none
    by_cases e : p.1 = k
    · rw [if_pos e]; exact ⟨p.2, valV_pos e, h⟩
    · rw [if_neg e, valV_neg e]; exact FzA.dv q
/-- d[k] -/
def fDG : D → D → Option D
  | .dk ks vs, y => (keyD y).bind fun k => dval ks vs k
  | x, y => fIx x y
section
variable {X : Cx} {Γ : Gm} {a b e f : Expr} {ta tb tc : Ed} {pos apos cpos : Pos}
theorem PE.or {e : Expr} {t t' : TE} (h : PE X e t) (h' : PE X e t') : PE X e fun σ H Q => t σ H Q ∨ t' σ H Q := ⟨fun pins s σ H Q I q => by
  rcases q with q | q
  · exact h.run pins s σ H Q I q
  · exact h'.run pins s σ H Q I q⟩
theorem d_ixD (hu : X.A.units + 64 < cLine) (ha : DE X Γ a ta) (hb : DE X Γ b tb) (hs : PlainIx b := by exact fun _ _ => rfl) (hn : NoSl b := by exact fun _ _ => rfl) (hK : X.K = Γ.c.K := by rfl) : DE X Γ (.Subscript a b pos) (e2 fDG ta tb) :=
  ⟨PE.wk (PE.or (pe_ix ix_seq ha.p hb.p hs) (pe_dget (by omega) ha.p hb.p hn)) fun σ H Q ⟨R, ρ, n, r, n', rp, e, q⟩ => by
    obtain ⟨x, m, e1, e⟩ := Mb_some e
    obtain ⟨y, m2, e2, e⟩ := Mb_some e
    obtain ⟨ee, rfl⟩ := Mo_some e
    by_cases hx : ∃ ks vs, x = .dk ks vs
    · obtain ⟨ks, vs, rfl⟩ := hx
      refine .inr ⟨R, ρ, n, _, m, rp, e1, fun v R1 H1 rp1 S1 z1 => ⟨R1, ρ, m, y, _, rp1, e2, fun u R2 H2 rp2 S2 z2 => ?_⟩⟩
      obtain ⟨k, ek, ev⟩ := Option.bind_eq_some_iff.mp (show (keyD y).bind (fun k => dval ks vs k) = some r from ee)
      cases z1.mono S2.le with
      | @dk a kvs _ h1 h2 h3 =>
        have hd := h3.dv (k := k)
        rw [ev] at hd
        obtain ⟨w, hw, fw⟩ := hd
        exact ⟨a, w, rfl, .inl ⟨kvs, k, rp2.hp.same.dk h1, z2.key ek, hw.symm⟩, q w R2 H2 rp2 (S1.trans S2) fw⟩
    · refine .inl ⟨R, ρ, n, x, m, rp, e1, fun v R1 H1 rp1 S1 z1 => ⟨R1, ρ, m, y, _, rp1, e2, fun u R2 H2 rp2 S2 z2 => ?_⟩⟩
      have ee' : fIx x y = some r := by
        cases x <;> first | exact ee | exact absurd ⟨_, _, rfl⟩ hx
      exact o2Ix hK R2 H2 v u x y r ee' rp2.hp.same (z1.mono S2.le) z2 σ ρ _ Q rp2 fun w R3 H3 rp3 S3 z3 => q w R3 H3 rp3 ((S1.trans S2).trans S3) z3⟩
/-- k in d -/
def rDIn (b : Bool) : R2 := fun y x H Q => ∃ a o, x = .ref a ∧ DGet H a y o ∧ Q (.bl (Bool.xor b o.isSome)) H
theorem op_in_d (hu : X.A.units + 1 < cLine) : OpR X (compareOp .In) (rDIn false) := fun pins s σ H x y v u Q I rx ry h => by
  obtain ⟨a, o, rfl, g, q⟩ := h
  obtain rfl : u = Value.ref a := ry
  exact L2.d_in hu I g rx fun s3 I3 => ⟨.bl o.isSome, H, I3, rfl, by simpa using q⟩
theorem op_notin_d (hu : X.A.units + 1 < cLine) : OpR X (compareOp .NotIn) (rDIn true) := fun pins s σ H x y v u Q I rx ry h => by
  obtain ⟨a, o, rfl, g, q⟩ := h
  obtain rfl : u = Value.ref a := ry
  exact L2.d_notIn hu I g rx fun s3 I3 => ⟨.bl (!o.isSome), H, I3, rfl, by simpa using q⟩
def inDD : D → D → Option Bool
  | x, .dk ks vs => (keyD x).map fun k => (dval ks vs k).isSome
  | x, y => inD x y
def fInD (x y : D) : Option D := (inDD x y).map .bl
def fNotInD (x y : D) : Option D := (inDD x y).map fun b => .bl (!b)
theorem dv_some {c : Cn} {R : Hp} {k : Key} {kvs : List (Key × V)} {ds : List D} (h : FzA c R (kvs.map Prod.snd) ds) : (valV kvs k).isSome = (dval (kvs.map Prod.fst) ds k).isSome := by
  have := h.dv (k := k)
  cases e : dval (kvs.map Prod.fst) ds k with
  | none => rw [e] at this; rw [this]; rfl
  | some d => rw [e] at this; obtain ⟨v, hv, _⟩ := this; rw [hv]; rfl
theorem inDD_ne {x y : D} (h : ¬ ∃ ks vs, y = .dk ks vs) : inDD x y = inD x y := by
  cases y <;> first | rfl | exact absurd ⟨_, _, rfl⟩ h
theorem o2InD (hK : X.K = Γ.c.K) : Op2 Γ (fun x y H Q => (rIn X.K false x y H Q ∨ ∃ i j, x = .str i ∧ y = .str j ∧ Q (.bl (!(Builtin.Str.occurrences j i 0 j.length 1).isEmpty)) H) ∨ rDIn false x y H Q) fInD := fun R H x y dx dy d e S z1 z2 => by
  by_cases hx : ∃ ks vs, dy = .dk ks vs
  · obtain ⟨ks, vs, rfl⟩ := hx
    obtain ⟨b, e1, rfl⟩ := Option.map_eq_some_iff.mp e
    obtain ⟨k, ek, rfl⟩ := Option.map_eq_some_iff.mp (show (keyD dx).map (fun k => (dval ks vs k).isSome) = some b from e1)
    cases z2 with
    | @dk a kvs _ h1 h2 h3 =>
      exact gives_c (.bl _) fun Q q => .inr ⟨a, _, rfl, .inl ⟨kvs, k, S.dk h1, z1.key ek, rfl⟩, by rw [dv_some h3]; simpa using q⟩
  · have e' : fIn dx dy = some d := by unfold fIn; unfold fInD at e; rw [inDD_ne hx] at e; exact e
    exact fun σ ρ n Q rp q => .inl (o2In hK R H x y dx dy d e' S z1 z2 σ ρ n Q rp q)
theorem o2NotInD (hK : X.K = Γ.c.K) : Op2 Γ (fun x y H Q => (rIn X.K true x y H Q ∨ ∃ i j, x = .str i ∧ y = .str j ∧ Q (.bl (!!(Builtin.Str.occurrences j i 0 j.length 1).isEmpty)) H) ∨ rDIn true x y H Q) fNotInD := fun R H x y dx dy d e S z1 z2 => by
  by_cases hx : ∃ ks vs, dy = .dk ks vs
  · obtain ⟨ks, vs, rfl⟩ := hx
    obtain ⟨b, e1, rfl⟩ := Option.map_eq_some_iff.mp e
    obtain ⟨k, ek, rfl⟩ := Option.map_eq_some_iff.mp (show (keyD dx).map (fun k => (dval ks vs k).isSome) = some b from e1)
    cases z2 with
    | @dk a kvs _ h1 h2 h3 =>
      exact gives_c (.bl _) fun Q q => .inr ⟨a, _, rfl, .inl ⟨kvs, k, S.dk h1, z1.key ek, rfl⟩, by rw [dv_some h3]; simpa using q⟩
  · have e' : fNotIn dx dy = some d := by unfold fNotIn; unfold fNotInD at e; rw [inDD_ne hx] at e; exact e
    exact fun σ ρ n Q rp q => .inl (o2NotIn hK R H x y dx dy d e' S z1 z2 σ ρ n Q rp q)
theorem d_inD (hu : X.A.units + 64 < cLine) (ha : DE X Γ a ta) (hb : DE X Γ b tb) (hm : behindInMarks .In b = false := by rfl) (hK : X.K = Γ.c.K := by rfl) : DE X Γ (.Compare a [.In] [b] pos) (e2 fInD ta tb) := d_cmp ((op_in_seq.or op_in_str).or (op_in_d (by omega))) (o2InD hK) ha hb hm
theorem d_notinD (hu : X.A.units + 64 < cLine) (ha : DE X Γ a ta) (hb : DE X Γ b tb) (hm : behindInMarks .NotIn b = false := by rfl) (hK : X.K = Γ.c.K := by rfl) : DE X Γ (.Compare a [.NotIn] [b] pos) (e2 fNotInD ta tb) := d_cmp ((op_notIn_seq.or op_notin_str).or (op_notin_d (by omega))) (o2NotInD hK) ha hb hm
theorem dt_inD (hu : X.A.units + 64 < cLine) (ha : DE X Γ a ta) (hb : DE X Γ b tb) (hm : behindInMarks .In b = false := by rfl) (hK : X.K = Γ.c.K := by rfl) : DT X Γ (.Compare a [.In] [b] pos) (trB (e2 fInD ta tb)) := dt_cmp ((op_in_seq.or op_in_str).or (op_in_d (by omega))) (o2InD hK) (bf_map (k := id)) ha hb hm
theorem dt_notinD (hu : X.A.units + 64 < cLine) (ha : DE X Γ a ta) (hb : DE X Γ b tb) (hm : behindInMarks .NotIn b = false := by rfl) (hK : X.K = Γ.c.K := by rfl) : DT X Γ (.Compare a [.NotIn] [b] pos) (trB (e2 fNotInD ta tb)) := dt_cmp ((op_notIn_seq.or op_notin_str).or (op_notin_d (by omega))) (o2NotInD hK) bf_map ha hb hm
/-- d.get(k), d.get(k, x) -/
def fGet : D → D → D → Option D
  | .dk ks vs, y, z => (keyD y).map fun k => (dval ks vs k).getD z
  | _, _, _ => none
def eGet (ta tb tc : Ed) : Ed := fun ρ => Mb (ta ρ) fun x => Mb (tb ρ) fun y => Mb (tc ρ) fun z => Mo (fGet x y z)
theorem get_ok {c : Cn} {R : Hp} {kvs : List (Key × V)} {ds : List D} {k : Key} {v : V} {z : D} (h : FzA c R (kvs.map Prod.snd) ds) (hz : Fz c R v z) : Fz c R ((valV kvs k).getD v) ((dval (kvs.map Prod.fst) ds k).getD z) := by
  have := h.dv (k := k)
  cases e : dval (kvs.map Prod.fst) ds k with
  | none => rw [e] at this; rw [this]; exact hz
  | some d => rw [e] at this; obtain ⟨w, hw, fw⟩ := this; rw [hw]; exact fw
theorem d_get1 (hu : X.A.units + 64 < cLine) (ha : DE X Γ a ta) (hb : DE X Γ e tb) (m : M1 X a "get" apos e cpos := by exact ⟨rfl, rfl, rfl, rfl⟩) : DE X Γ (.Call (.Attribute a "get" apos) [e] [] cpos) (eGet ta tb (eC .non)) :=
  ⟨PE.wk (pe_dget1 (by omega) ha.p hb.p m) fun σ H Q ⟨R, ρ, n, r, n', rp, e, q⟩ => by
    obtain ⟨x, m, e1, e⟩ := Mb_some e
    obtain ⟨y, m2, e2, e⟩ := Mb_some e
    obtain ⟨z, m3, e3, e⟩ := Mb_some e
    obtain ⟨ee, rfl⟩ := Mo_some e
    cases e3
    refine ⟨R, ρ, n, x, m, rp, e1, fun v R1 H1 rp1 S1 z1 => ?_⟩
    cases x with
    | dk ks vs =>
      obtain ⟨k, ek, rfl⟩ := Option.map_eq_some_iff.mp (show (keyD y).map (fun k => (dval ks vs k).getD .non) = some r from ee)
      cases z1 with
      | @dk a kvs _ h1 h2 h3 =>
        refine ⟨a, rfl, .inl ⟨kvs, rp1.hp.same.dk h1⟩, R1, ρ, m, y, _, rp1, e2, fun u R2 H2 rp2 S2 z2 => ⟨_, .inl ⟨kvs, k, rp2.hp.same.dk (S2.le.1 _ _ h1), z2.key ek, rfl⟩, q _ R2 H2 rp2 (S1.trans S2) (get_ok (h3.mono S2.le) .non)⟩⟩
    | _ => cases ee⟩
theorem d_get2 (hu : X.A.units + 64 < cLine) (ha : DE X Γ a ta) (hb : DE X Γ e tb) (hc : DE X Γ f tc) (m : M2 X a "get" apos e f cpos := by exact ⟨rfl, rfl, rfl, rfl⟩) : DE X Γ (.Call (.Attribute a "get" apos) [e, f] [] cpos) (eGet ta tb tc) :=
  ⟨PE.wk (pe_dget2 (by omega) ha.p hb.p hc.p m) fun σ H Q ⟨R, ρ, n, r, n', rp, e, q⟩ => by
    obtain ⟨x, m, e1, e⟩ := Mb_some e
    obtain ⟨y, m2, e2, e⟩ := Mb_some e
    obtain ⟨z, m3, e3, e⟩ := Mb_some e
    obtain ⟨ee, rfl⟩ := Mo_some e
    refine ⟨R, ρ, n, x, m, rp, e1, fun v R1 H1 rp1 S1 z1 => ?_⟩
    cases x with
    | dk ks vs =>
      obtain ⟨k, ek, rfl⟩ := Option.map_eq_some_iff.mp (show (keyD y).map (fun k => (dval ks vs k).getD z) = some r from ee)
      cases z1 with
      | @dk a kvs _ h1 h2 h3 =>
        refine ⟨a, rfl, .inl ⟨kvs, rp1.hp.same.dk h1⟩, R1, ρ, m, y, _, rp1, e2, fun u R2 H2 rp2 S2 z2 => ⟨R2, ρ, m2, z, _, rp2, e3, fun t R3 H3 rp3 S3 z3 => ⟨_, .inl ⟨kvs, k, rp3.hp.same.dk (S3.le.1 _ _ (S2.le.1 _ _ h1)), (z2.mono S3.le).key ek, rfl⟩, q _ R3 H3 rp3 ((S1.trans S2).trans S3) (get_ok ((h3.mono S2.le).mono S3.le) z3)⟩⟩⟩
    | _ => cases ee⟩
end
end Sh

set_option Elab.async false
set_option linter.all false
set_option maxRecDepth 100000
/-! dicts made: displays, comprehensions, owned ones written -/
namespace Sh
open PySem L2 Nf
def repl : List Key → List D → Key → D → List D
  | k' :: ks, v :: vs, k, d => (if k' = k then d else v) :: repl ks vs k d
  | _, _, _, _ => []
def putD (a : List Key × List D) (k : Key) (d : D) : List Key × List D := if a.1.any (fun k' => decide (k' = k)) = true then (a.1, repl a.1 a.2 k d) else (a.1 ++ [k], a.2 ++ [d])
theorem repl_fz {c : Cn} {R : Hp} {k : Key} {v : V} {d : D} (hv : Fz c R v d) : ∀ {kvs : List (Key × V)} {ds : List D}, FzA c R (kvs.map Prod.snd) ds → FzA c R ((kvs.map fun kv => if kv.1 = k then (kv.1, v) else kv).map Prod.snd) (repl (kvs.map Prod.fst) ds k d)
  | [], _, .nil => .nil
  | p :: r, _, .cons (d := e) (ds := es) h q => by
    show FzA c R ((if p.1 = k then (p.1, v) else p).2 :: ((r.map fun kv => if kv.1 = k then (kv.1, v) else kv).map Prod.snd)) ((if p.1 = k then d else e) :: repl (r.map Prod.fst) es k d)
    refine .cons ?_ (repl_fz hv q)
    by_cases e1 : p.1 = k
    · rw [if_pos e1, if_pos e1]; exact hv
    · rw [if_neg e1, if_neg e1]; exact h
theorem repl_fst {k : Key} {v : V} : ∀ kvs : List (Key × V), (kvs.map fun kv => if kv.1 = k then (kv.1, v) else kv).map Prod.fst = kvs.map Prod.fst
  | [] => rfl
  | p :: r => by
    simp only [List.map_cons]
    rw [repl_fst r]
    congr 1
    split <;> rfl
theorem put_fz {c : Cn} {R : Hp} {k : Key} {v : V} {d : D} {kvs : List (Key × V)} {ds : List D} (h : FzA c R (kvs.map Prod.snd) ds) (hv : Fz c R v d) :
    (putK kvs k v).map Prod.fst = (putD (kvs.map Prod.fst, ds) k d).1 ∧ FzA c R ((putK kvs k v).map Prod.snd) (putD (kvs.map Prod.fst, ds) k d).2 ∧ (putK kvs k v).length ≤ kvs.length + 1 := by
  unfold putK putD
  have ea : (kvs.any fun kv => decide (kv.1 = k)) = (kvs.map Prod.fst).any (fun k' => decide (k' = k)) := by rw [List.any_map]; rfl
  rw [ea]
  by_cases e : ((kvs.map Prod.fst).any (fun k' => decide (k' = k))) = true
  · rw [if_pos e]
    simp only [e, if_true]
    exact ⟨repl_fst kvs, repl_fz hv h, by rw [List.length_map]; omega⟩
  · rw [if_neg e]
    simp only [e, if_false]
    refine ⟨by rw [List.map_append]; rfl, ?_, by rw [List.length_append]; exact Nat.le_refl _⟩
    rw [List.map_append]
    exact h.app (.cons hv .nil)
theorem _root_.L2.dc_it {J : It} {nn : Nat} {G : Hp → Prop} {Y : Nat → Hp → V → Hp → Prop} (w : Walk J nn G Y) {g : TG} {tt : TT} {tk tv : TE} {vs : List Nat} {σ : St} {H1 : Hp} {D : Addr} {Qd : Hp → Prop} (Pv : Nat → Hp → Prop) (h0 : Pv 0 (upd H1 D (.dK []))) (hG : ∀ i H, i ≤ nn → Pv i H → G H)
    (hs : ∀ i x H H', i < nn → Pv i H → Y i H x H' → g x (wipe σ vs) H' fun σ2 H2 => wipe σ2 vs = wipe σ vs ∧ tt σ2 H2 fun b H3 =>
      if b = true then tk σ2 H3 fun y H4 => tv σ2 H4 fun z H5 => ∃ kvs k, y = kV k ∧ H5 D = some (.dK kvs) ∧ kvs.length < sizeLine ∧ Pv (i + 1) (upd H5 D (.dK (putK kvs k z))) else Pv (i + 1) H3) (hd : ∀ H, Pv nn H → Qd H) :
    ∃ W : Nat → Nat → Hp → Prop, (∃ m, W 0 m (upd H1 D (.dK []))) ∧ ∀ i m H, W i m H →
      (J.stop i H ∧ Qd H) ∨ (J.go i H ∧ ∃ Nx : Hp → Prop, (∀ H', Nx H' → ∃ m', m' < m ∧ W (i + 1) m' H') ∧ ∀ x H', J.yld i H x H' → g x (wipe σ vs) H' fun σ2 H2 => wipe σ2 vs = wipe σ vs ∧ tt σ2 H2 fun b H3 =>
        if b = true then tk σ2 H3 fun y H4 => tv σ2 H4 fun z H5 => ∃ kvs k, y = kV k ∧ H5 D = some (.dK kvs) ∧ kvs.length < sizeLine ∧ Nx (upd H5 D (.dK (putK kvs k z))) else Nx H3) := by
  refine ⟨fun i m H => m = nn - i ∧ i ≤ nn ∧ Pv i H, ⟨nn, by simp, Nat.zero_le _, h0⟩, ?_⟩
  rintro i m H ⟨rfl, hi, p⟩
  have q := hG i H hi p
  by_cases hlt : i < nn
  · refine .inr ⟨w.goes i H hlt q, Pv (i + 1), fun H' p' => ⟨nn - (i + 1), by omega, rfl, hlt, p'⟩, fun x H' y => hs i x H H' hlt p (w.yields i H x H' hlt q y)⟩
  · have e : i = nn := by omega
    subst e
    exact .inl ⟨w.stops H q, hd H p⟩
section
variable {X : Cx} {Γ : Gm}
def dcM (g : Gd) (tt : Td) (tk tv : Ed) (ρ : Sd) : List D → List Key × List D → M (List Key × List D)
  | [], a => Mp a
  | d :: ds, a => Mb (Mo (g d ρ)) fun ρ1 => Mb (tt ρ1) fun b => if b = true then Mb (tk ρ1) fun y => Mb (tv ρ1) fun z => Mb (Mo (keyD y)) fun k => dcM g tt tk tv ρ ds (putD a k z) else dcM g tt tk tv ρ ds a
def eDc (ti : Id') (g : Gd) (tt : Td) (tk tv : Ed) (vs : List Nat) : Ed := fun ρ => Mb (ti ρ) fun ds => Mb (dcM g tt tk tv (wipeD ρ vs) ds ([], [])) fun a => Mp (.dk a.1 a.2)
set_option maxHeartbeats 1000000 in
theorem dc_up {ti : Id'} {g : Gd} {tt : Td} {tk tv : Ed} {vs : List Nat} {σ : L2.St} {H : Hp} {Q : VK} {R : Hp} {ρ : Sd} {n : Sx} {r : D} {n' : Sx} (rp : Rp Γ R H σ ρ n) (e : eDc ti g tt tk tv vs ρ n = some (r, n'))
    (q : ∀ (Z : Addr) (us : List (Key × V)) (R' H' : Hp), Rp Γ R' H' σ ρ n' → Go Γ R H R' H' → H Z = none → NoO Γ σ ρ Z → Γ.H0 Z = none → H' Z = some (.dK us) → R' Z = none → us.length ≤ sizeLine → (∃ rs, r = .dk (us.map Prod.fst) rs ∧ FzA Γ.c R' (us.map Prod.snd) rs) → Q (.ref Z) H') :
    tDc (upI Γ ti) (upG Γ vs g) (upT Γ tt) (up Γ tk) (up Γ tv) vs σ H Q := by
  obtain ⟨ds, m, e1, e⟩ := Mb_some e
  obtain ⟨rs, m2, e2, e⟩ := Mb_some e
  cases e
  · refine ⟨R, ρ, n, ds, m, rp, e1, fun J G Y R1 H1 rp1 S1 W hG hY hzz Z hZ => ?_⟩
    have hR1 : R1 Z = none := rp1.hp.same.free hZ
    have h0 : Γ.H0 Z = none := rp1.hp.nn hZ
    have hdm : Z ∉ Γ.W.dom := fun z => rp1.hp.d0 Z z h0
    have hnO := rp1.noO hZ
    have hHZ : H Z = none := S1.nn Z hZ
    refine dc_it W (fun i H2 => ∃ R2 n2 us as, Rp Γ R2 H2 σ ρ n2 ∧ Go Γ R H R2 H2 ∧ Same R1 R2 ∧ H2 Z = some (.dK us) ∧ R2 Z = none ∧ FzA Γ.c R2 (us.map Prod.snd) as ∧ dcM g tt tk tv (wipeD ρ vs) (ds.drop i) (us.map Prod.fst, as) n2 = some (rs, n') ∧ us.length ≤ i) ?_ ?_ ?_ ?_
    · exact ⟨R1, m, [], [], rp1.lay0 hZ, S1.lay0 hZ, Same.refl _, upd_same, hR1, .nil, by rw [List.drop_zero]; exact e2, Nat.le_refl _⟩
    · rintro i H2 _ ⟨R2, n2, us, as, rp2, _, S2, _⟩
      exact hG H2 (S2.tr rp2.hp.same)
    · rintro i x H2 H3 hi ⟨R2, n2, us, as, rp2, g2, S2, hZ2, hRZ2, f2, e3, hl⟩ hy
      have hd : ds[i]? = some ds[i] := List.getElem?_eq_getElem hi
      rw [List.drop_eq_getElem_cons hi] at e3
      obtain ⟨R3, rp3, g3, z3⟩ := yok_step rp2 hY S2 hd hy
      obtain ⟨hZ3, hRZ3⟩ := g3.stay hZ2 hdm hRZ2
      obtain ⟨ρ1, n3, e4, e5⟩ := Mb_some e3
      obtain ⟨e4', rfl⟩ := Mo_some e4
      obtain ⟨b, n4, e6, e7⟩ := Mb_some e5
      refine ⟨R3, wipeD ρ vs, n3, ds[i], ρ1, rp3.wipe vs, z3, e4', fun σ1 hl1 ha1 rp1' => ⟨?_, R3, ρ1, n3, b, n4, rp1', e6, fun R4 H4 rp4 g4 => ?_⟩⟩
      · refine wipe_eq (by rw [hl1, wipe_length]) fun j hj => ?_
        rw [ha1 j hj, wipe_out hj]
      · obtain ⟨hZ4, hRZ4⟩ := g4.stay hZ3 hdm hRZ3
        cases b with
        | true =>
          obtain ⟨y, n5, e8, e9⟩ := Mb_some (show Mb (tk ρ1) (fun y => Mb (tv ρ1) fun z => Mb (Mo (keyD y)) fun k => dcM g tt tk tv (wipeD ρ vs) (ds.drop (i + 1)) (putD (us.map Prod.fst, as) k z)) n4 = some (rs, n') from e7)
          obtain ⟨z, n6, e10, e11⟩ := Mb_some e9
          obtain ⟨k, n7, e12, e13⟩ := Mb_some e11
          obtain ⟨ek, rfl⟩ := Mo_some e12
          refine iteT ⟨R4, ρ1, n4, y, n5, rp4, e8, fun v R5 H5 rp5 g5 z5 => ⟨R5, ρ1, n5, z, _, rp5, e10, fun v' R6 H6 rp6 g6 z6 => ?_⟩⟩
          obtain ⟨hZ5, hRZ5⟩ := g5.stay hZ4 hdm hRZ4
          obtain ⟨hZ6, hRZ6⟩ := g6.stay hZ5 hdm hRZ5
          have f6 := (((f2.mono g3.le).mono g4.le).mono g5.le).mono g6.le
          have g26 := ((g3.trans g4).trans g5).trans g6
          obtain ⟨p1, p2, p3⟩ := put_fz (k := k) f6 z6
          refine ⟨us, k, z5.key ek, hZ6, by omega, R6, _, putK us k v', _, (rp2.along g26 rp6.hp).mutO hRZ6 h0 hnO, (g2.trans g26).mutN hHZ, S2.trans g26.same, upd_same, hRZ6, p2, ?_, by omega⟩
          rw [p1]
          exact e13
        | false =>
          have g24 := g3.trans g4
          exact iteF ⟨R4, n4, us, as, rp2.along g24 rp4.hp, g2.trans g24, S2.trans g24.same, hZ4, hRZ4, (f2.mono g3.le).mono g4.le, e7, by omega⟩
    · rintro H2 ⟨R2, n2, us, as, rp2, g2, S2, hZ2, hRZ2, f2, e3, hl⟩
      rw [List.drop_length] at e3
      cases e3
      exact q Z us R2 H2 rp2 g2 hHZ hnO h0 hZ2 hRZ2 (by omega) ⟨_, rfl, f2⟩
theorem do_dc {kx vx tg iter : Expr} {ifs : List Expr} {scope : Scope} {own : List (Str × Nat)} {vs : List Nat} {pos : Pos} {ti : Id'} {g : Gd} {tt : Td} {tk tv : Ed} (hN : X.N.Nodup) (hi : DI X Γ tg iter ti) (ok : BlkOk X.N X.env.scope scope own)
    (hg : ∀ (s : Shared) (H : Hp) (C : Addr) (cl : List (Str × Addr)) (fp : List Addr), DG (X.blk s H scope (compEnvC scope cl C X.env) fp) Γ tg vs g) (ht : ∀ (s : Shared) (H : Hp) (C : Addr) (cl : List (Str × Addr)) (fp : List Addr), DTs (X.blk s H scope (compEnvC scope cl C X.env) fp) Γ ifs tt)
    (hk : ∀ (s : Shared) (H : Hp) (C : Addr) (cl : List (Str × Addr)) (fp : List Addr), DE (X.blk s H scope (compEnvC scope cl C X.env) fp) Γ kx tk)
    (he : ∀ (s : Shared) (H : Hp) (C : Addr) (cl : List (Str × Addr)) (fp : List Addr), DE (X.blk s H scope (compEnvC scope cl C X.env) fp) Γ vx tv) (hvs : own.map (·.2) = vs := by rfl) (hc : X.calm = true := by rfl) (hs : ∀ x, foldedSetIterable iter X.env x = pure x := by intro _; rfl) :
    DO X Γ (.DictComp kx vx [⟨tg, iter, ifs, 0⟩] scope pos) (eDc ti g tt tk tv vs) :=
  ⟨PE.wk (pe_dc hc hN hi.p ok (fun s H C cl fp => (hg s H C cl fp).p) (fun s H C cl fp => (ht s H C cl fp).p) (fun s H C cl fp => (hk s H C cl fp).p) (fun s H C cl fp => (he s H C cl fp).p) hs) fun σ H Q ⟨R, ρ, n, r, n', rp, e, q⟩ => by
    rw [hvs]
    refine dc_up rp e fun Z us R' H' rp' g' hZ hnO h0 hZ' hR' hl ⟨rs, er, f⟩ => ?_
    subst er
    exact q _ _ R' H' rp' g' hZ hZ' hR' h0 hnO (.dk hl f)⟩
/-- {} -/
theorem do_dict0 {pos : Pos} : DO X Γ (.Dict [] [] pos) (eC (.dk [] [])) := ⟨PE.wk pe_dnewK fun σ H Q ⟨R, ρ, n, r, n', rp, e, q⟩ => by
  cases e
  exact fun p hp => q p _ R _ (rp.lay0 hp) (Go.lay0 (Go.refl _ _ _) hp) hp upd_same (rp.hp.same.free hp) (rp.hp.nn hp) (rp.noO hp) (.dk (kvs := []) (by show 0 ≤ sizeLine; decide) .nil)⟩
/-- d[k] = v, d owned -/
def sPut (i : Nat) (tk tv : Ed) : Bd := fun ρ => Mb (tv ρ) fun d => Mb (eVar i ρ) fun l => Mb (tk ρ) fun y => match l with
  | .dk ks vs => if ks.length < sizeLine then Mb (Mo (keyD y)) fun k => Mp (.next (ρ.set i (some (.dk (putD (ks, vs) k d).1 (putD (ks, vs) k d).2)))) else Mo none
  | _ => Mo none
theorem Rp.ownD {R H : Hp} {σ : L2.St} {ρ : Sd} {n : Sx} {i : Nat} {ks : List Key} {ds : List D} (h : Rp Γ R H σ ρ n) (hi : i ∈ Γ.ow) (e : ρ[i]? = some (some (.dk ks ds))) : ∃ a kvs, σ[i]? = some (some (.ref a)) ∧ H a = some (.dK kvs) ∧ R a = none ∧ Γ.H0 a = none ∧ kvs.length ≤ sizeLine ∧ ks = kvs.map Prod.fst ∧ FzA Γ.c R (kvs.map Prod.snd) ds ∧ a ∉ Γ.W.dom := by
  obtain ⟨a, o, h1, h2, h3, h4, h5⟩ := h.own i _ hi e
  cases h5 with
  | dk z f => exact ⟨a, _, h1, h2, h3, h4, z, rfl, f, fun m => h.hp.d0 a m h4⟩
theorem ds_put {i : Nat} {o kx vx : Expr} {tk tv : Ed} {pos pos' : Pos} (hu : X.A.units + 64 < cLine) (ho : PE X o (tVar i)) (hk : DE X Γ kx tk) (hv : DE X Γ vx tv) (hio' : Γ.ow.contains i = true := by rfl) (hs : swapsWith vx (some (.Subscript o kx pos')) pos.line X.env = pure false := by rfl) :
    DS X Γ (.Assign [.Subscript o kx pos'] vx pos) (sPut i tk tv) :=
  have hio := mem_of hio'
  ⟨PS.wk (ps_dput (by omega) ho hk.p hv.p hs) fun E σ H ⟨R, ρ, n, fl, n', rp, e, q⟩ => by
    obtain ⟨d, m, e1, ea⟩ := Mb_some e
    obtain ⟨l, m2, e2, eb⟩ := Mb_some ea
    obtain ⟨y, m3, e3, ec⟩ := Mb_some eb
    obtain ⟨e2', rfl⟩ := eVar_some e2
    clear e ea eb e2
    cases l with
    | dk ks vs =>
      by_cases hz : ks.length < sizeLine
      · have e' : Mb (Mo (keyD y)) (fun k => Mp (Fl.next (ρ.set i (some (.dk (putD (ks, vs) k d).1 (putD (ks, vs) k d).2))))) m3 = some (fl, n') := by
          rw [← ec]; show _ = (if ks.length < sizeLine then _ else Mo none) m3
          rw [if_pos hz]
        obtain ⟨k, m4, e4, e5⟩ := Mb_some e'
        obtain ⟨ek, rfl⟩ := Mo_some e4
        cases e5
        refine ⟨R, ρ, n, d, _, rp, e1, fun v R1 H1 rp1 g1 z1 => ?_⟩
        obtain ⟨la, kvs, h1, h2, h3, h4, h5, rfl, f, hd⟩ := rp1.ownD hio e2'
        refine ⟨_, h1, R1, ρ, _, y, _, rp1, e3, fun u R2 H2 rp2 g2 z2 => ?_⟩
        obtain ⟨h2', h3'⟩ := g2.stay h2 hd h3
        obtain ⟨p1, p2, p3⟩ := put_fz (k := k) (f.mono g2.le) (z1.mono g2.le)
        have hlen : kvs.length < sizeLine := by rw [List.length_map] at hz; exact hz
        refine ⟨la, _, rfl, .inl ⟨kvs, k, h2', z2.key ek, hlen, rfl⟩, q R2 _ σ ?_ (g1.same.trans g2.same)⟩
        rw [← p1]
        exact rp2.mut hio e2' h1 (.dk (by omega) p2)
      · have e' : (none : Option (Fl × Sx)) = some (fl, n') := by
          rw [← ec]; show _ = (if ks.length < sizeLine then _ else Mo none) m3
          rw [if_neg hz]; rfl
        cases e'
    | _ => cases ec⟩
end
end Sh

set_option Elab.async false
set_option linter.all false
set_option maxRecDepth 100000
/-! what isn't come to; tuple(d), list(d), max(list) -/
namespace Sh
open PySem PySem.Spec PyProof.Rows L2 Nf
section
variable {X : Cx} {Γ : Gm}
/-- a piece that is never come to: nothing is said of it -/
def eNo : Ed := fun _ _ => none
def tNo : Td := fun _ _ => none
def bNo : Bd := fun _ _ => none
def iNo : Id' := fun _ _ => none
theorem d_no {e : Expr} : DE X Γ e eNo := ⟨⟨fun pins s σ H Q I ⟨R, ρ, n, r, n', rp, e, q⟩ => nomatch e⟩⟩
theorem dt_no {e : Expr} : DT X Γ e tNo := ⟨⟨fun pins s σ H Q I ⟨R, ρ, n, r, n', rp, e, q⟩ => nomatch e⟩⟩
theorem ds_no {st : Stmt} : DS X Γ st bNo := ⟨⟨fun pins s σ H Q I ⟨R, ρ, n, r, n', rp, e, q⟩ => nomatch e⟩⟩
theorem db_no {st : List Stmt} : DB X Γ st bNo := ⟨⟨fun pins s σ H Q I ⟨R, ρ, n, r, n', rp, e, q⟩ => nomatch e⟩⟩
theorem di_no {tg e : Expr} : DI X Γ tg e iNo := ⟨⟨fun pins s σ H Q I ⟨R, ρ, n, r, n', rp, e, q⟩ => nomatch e⟩⟩
/-! tuple(d), list(d) -/
def dOf : Key → D
  | .inl i => .int i
  | .inr x => .str x
def keyOk : Key → Bool
  | .inl _ => true
  | .inr x => decide (x.length ≤ sizeLine)
def keysOk (ks : List Key) : Bool := ks.all keyOk
theorem keys_fz {c : Cn} {R : Hp} : ∀ {ks : List Key}, keysOk ks = true → FzA c R (ks.map kV) (ks.map dOf)
  | [], _ => .nil
  | k :: r, h => by
    obtain ⟨h1, h2⟩ := Bool.and_eq_true_iff.mp (show (keyOk k && keysOk r) = true by simpa [keysOk] using h)
    refine .cons ?_ (keys_fz h2)
    cases k with
    | inl i => exact .int i
    | inr x => exact .str x (of_decide_eq_true h1)
def rTupR : List V → Hp → VK → Prop := fun xs H Q => ∃ p kvs, xs = [.ref p] ∧ Rd H p (.dK kvs) ∧ ∀ q, H q = none → Q (.ref q) (upd H q (.tup (kvs.map fun kv => kV kv.1)))
theorem call_tup_dR {X : Cx} (hc : X.calm = true) : CallR X (.type "tuple") rTupR := by
  intro pins s σ H xs us Q I r h
  obtain ⟨p, kvs, rfl, hk, q⟩ := h
  obtain ⟨u, rfl, rx⟩ := vals1 r
  obtain rfl : u = Value.ref p := rx
  obtain ⟨z, lo, vs, rk, hd⟩ := dk_rd I.hok hk
  obtain ⟨ep, hat⟩ := hd.dictAt
  have hl : kvs.length = vs.length := Paired.length rk
  refine call_tup_src (PySem.W.kdl_dict (knd := mixKind X.prog X.w) (kvs := vs) (ep := ep) lo) (I.ok.hd hc) hat (hl ▸ z) fun h' tk acc hkeep hacc => ?_
  have I1 : Inv X pins σ H { s with heap := h', toks := tk } := I.kept (t' := tk) hkeep
  refine ⟨.ref h'.objs.size, upd H h'.objs.size (.tup (kvs.map fun kv => kV kv.1)), I1.laid (t' := tk) (fun b o e => Heap.get?_push_of_some _ e) (Nat.le_refl _) ?_, rfl, q _ (I1.hok.fresh (Nat.le_refl _))⟩
  refine (show ObjOk X.prog X.w _ _ _ (.tup (kvs.map fun kv => kV kv.1)) from ⟨by rw [List.length_map]; exact z, acc.toList, ?_, ?_⟩)
  · have el : acc.toList.length = acc.size := by simp
    refine vals_of_at (by rw [List.length_map, el, hacc.1, hl]) fun j x y h1 h2 => ?_
    obtain ⟨k, m, hky, hi⟩ := hacc.2 j y (by rw [← Array.getElem?_toList]; exact h2)
    have e1 : (kvs.map (·.1))[j]? = some k := by
      rw [KV.keys rk, List.getElem?_map, hky] <;> rfl
    rw [List.getElem?_map] at h1 e1
    obtain ⟨kv, hkv, rfl⟩ := Option.map_eq_some_iff.mp h1
    rw [hkv] at e1
    cases e1
    exact keyIs_rel hi
  · rw [Array.toArray_toList]
    exact IsTup.new _ _
def fTupD : D → Option D
  | .dk ks _ => if keysOk ks = true then some (.tup (ks.map dOf)) else none
  | x => fTuple x
def fListD : D → Option D
  | .dk ks _ => if keysOk ks = true then some (.lst (ks.map dOf)) else none
  | x => fList x
theorem kv_map (kvs : List (Key × V)) : (kvs.map fun kv => kV kv.1) = (kvs.map Prod.fst).map kV := by rw [List.map_map]; rfl
theorem c_listD (hK : X.K = Γ.c.K) : CallD Γ (fun xs H Q => (∃ p ys, xs = [.ref p] ∧ (SqL X.K H p ys ∨ SqT X.K H p ys) ∧ ∀ l, H l = none → Q (.ref l) (upd H l (.lst ys))) ∨ ∃ (a : Addr) (kvs : List (Key × V)), xs = [.ref a] ∧ Rd H a (.dK kvs) ∧ ∀ p, H p = none → Q (.ref p) (upd H p (.lst (kvs.map fun kv => kV kv.1)))) (f1 fListD) := call1 fun R H v dx d e S z => by
  by_cases hx : ∃ ks vs, dx = .dk ks vs
  · obtain ⟨ks, vs, rfl⟩ := hx
    cases z with
    | @dk a kvs _ h l q =>
      obtain ⟨hk, ee⟩ := ite_some (show (if keysOk (kvs.map Prod.fst) = true then some (D.lst ((kvs.map Prod.fst).map dOf)) else none) = some d from e)
      cases ee
      exact gives_new (o := .lst (kvs.map fun kv => kV kv.1)) (fun p R' e' S' => .lst e' (by rw [List.length_map]; exact l) (by rw [kv_map]; exact keys_fz hk)) fun Q qq => .inr ⟨a, kvs, rfl, S.dk h, qq⟩
  · have e' : fList dx = some d := by
      cases dx <;> first | exact e | exact absurd ⟨_, _, rfl⟩ hx
    exact fun σ ρ n Q rp q => .inl (c_list hK R H [v] [dx] d e' S (.cons z .nil) σ ρ n Q rp q)
theorem c_tupD (hK : X.K = Γ.c.K) : CallD Γ (fun xs H Q => (∃ p ys, xs = [.ref p] ∧ ((SqL X.K H p ys ∧ ∀ l, H l = none → Q (.ref l) (upd H l (.tup ys))) ∨ (SqT X.K H p ys ∧ Q (.ref p) H))) ∨ rTupR xs H Q) (f1 fTupD) := call1 fun R H v dx d e S z => by
  by_cases hx : ∃ ks vs, dx = .dk ks vs
  · obtain ⟨ks, vs, rfl⟩ := hx
    cases z with
    | @dk a kvs _ h l q =>
      obtain ⟨hk, ee⟩ := ite_some (show (if keysOk (kvs.map Prod.fst) = true then some (D.tup ((kvs.map Prod.fst).map dOf)) else none) = some d from e)
      cases ee
      exact gives_new (o := .tup (kvs.map fun kv => kV kv.1)) (fun p R' e' S' => .tup (SqT.of e') (by rw [List.length_map]; exact l) (by rw [kv_map]; exact keys_fz hk)) fun Q qq => .inr ⟨a, kvs, rfl, S.dk h, qq⟩
  · have e' : fTuple dx = some d := by
      cases dx <;> first | exact e | exact absurd ⟨_, _, rfl⟩ hx
    exact fun σ ρ n Q rp q => .inl (c_tuple hK R H [v] [dx] d e' S (.cons z .nil) σ ρ n Q rp q)
/-- list(x) as a list of its own -/
theorem do_list {e : Expr} {t : Ed} {x : Str} {p pos : Pos} (ha : DE X Γ e t) (hg : Gl X x) (hm : X.mg x = none) (hv : bootBuiltins x = some (.type "list")) (hn : x ≠ "__name__" := by decide) (hdb : (x == ("__debug__" : Str)) = false := by decide) (hc : X.calm = true := by rfl) (hK : X.K = Γ.c.K := by rfl)
    (he : starEach [e] X.env = (false, eval e X.env) :: starEach [] X.env := by rfl) (hpl : (backTo pos (starEach [] X.env)).any (·.1) = false := by rfl) : DO X Γ (.Call (.Name x p) [e] [] pos) (eF (f1 fListD) (aCons t aNil)) :=
  ⟨PE.wk (pe_callTy (call_list_of.or (call_listD hc)) hg hm hv (da_cons ha da_nil he).p hn hdb he hpl) fun σ H Q ⟨R, ρ, n, r, n', rp, e, q⟩ => by
    obtain ⟨ds, m, e1, e⟩ := Mb_some e
    obtain ⟨ee, rfl⟩ := Mo_some e
    refine ⟨R, ρ, n, ds, _, rp, e1, fun vs R1 H1 rp1 S1 z1 => ?_⟩
    match ds, ee with
    | [dx], ee =>
      obtain ⟨v, rfl, z⟩ := fzA1 z1
      have ee : fListD dx = some r := ee
      have fin : ∀ us ds, us.length ≤ sizeLine → FzA Γ.c R1 us ds → r = .lst ds → ∀ p, H1 p = none → Q (.ref p) (upd H1 p (.lst us)) := fun us ds hl f er p hp => by
        subst er
        exact q p _ R1 _ (rp1.lay0 hp) (S1.lay0 hp) (S1.nn p hp) upd_same (rp1.hp.same.free hp) (rp1.hp.nn hp) (rp1.noO hp) (.lst hl f)
      cases z with
      | tup h l f => cases ee; exact .inl ⟨_, _, rfl, .inr (hK ▸ rp1.hp.same.sqT h), fin _ _ l f rfl⟩
      | lst h l f => cases ee; exact .inl ⟨_, _, rfl, .inl (SqL.of (rp1.hp.same.l h)), fin _ _ l f rfl⟩
      | @dk a kvs _ h l f =>
        obtain ⟨hk, ee⟩ := ite_some (show (if keysOk (kvs.map Prod.fst) = true then some (D.lst ((kvs.map Prod.fst).map dOf)) else none) = some r from ee)
        cases ee
        exact .inr ⟨a, kvs, rfl, rp1.hp.same.dk h, fin _ _ (by rw [List.length_map]; exact l) (by rw [kv_map]; exact keys_fz hk) rfl⟩
      | _ => cases ee⟩
/-! max of a list of numbers -/
def mxI : List Int → Option Int
  | [] => none
  | [x] => some x
  | x :: r => (mxI r).map fun m => if m > x then m else x
theorem mxI_ok : ∀ {ns : List Int} {m : Int}, mxI ns = some m → m ∈ ns ∧ ∀ y ∈ ns, y ≤ m
  | [], _, h => by cases h
  | [x], m, h => by cases h; simp
  | x :: y :: r, m, h => by
    obtain ⟨k, hk, rfl⟩ := Option.map_eq_some_iff.mp (show (mxI (y :: r)).map (fun m => if m > x then m else x) = some m from h)
    obtain ⟨h1, h2⟩ := mxI_ok hk
    by_cases e : k > x
    · rw [if_pos e]
      exact ⟨List.mem_cons_of_mem _ h1, fun z hz => (List.mem_cons.mp hz).elim (fun e' => by omega) (h2 z)⟩
    · rw [if_neg e]
      exact ⟨List.mem_cons_self, fun z hz => (List.mem_cons.mp hz).elim (fun e' => by omega) (fun h => by have := h2 z h; omega)⟩
theorem mxI_uniq {ns : List Int} {m k : Int} (h : mxI ns = some m) (hk : k ∈ ns) (h2 : ∀ y ∈ ns, y ≤ k) : k = m := by
  obtain ⟨a, b⟩ := mxI_ok h
  have := b k hk
  have := h2 m a
  omega
def fMaxL : D → Option D
  | .lst ds => (inz ds).bind fun ns => (mxI ns).map .int
  | _ => none
theorem c_maxL : CallD Γ (rMax X.K) (f1 fMaxL) := call1 fun R H v dx d e S z => by
  cases z with
  | lst h l q =>
    obtain ⟨ns, e1, e2⟩ := Option.bind_eq_some_iff.mp e
    obtain ⟨m, e3, rfl⟩ := Option.map_eq_some_iff.mp e2
    have hx := inz_of q e1
    subst hx
    exact gives_c (.int _) fun Q qq => ⟨_, ns, rfl, SqL.of (S.l h), List.length_pos_of_mem (mxI_ok e3).1, fun k hk h2 => by rw [mxI_uniq e3 hk h2]; exact qq⟩
  | _ => cases e
/-- name = {k: v for ..} -/
theorem ds_setDc {i : Nat} {y : Str} {py pos : Pos} {kx vx tg iter : Expr} {ifs : List Expr} {scope : Scope} {own : List (Str × Nat)} {vs : List Nat} {spos : Pos} {ti : Id'} {g : Gd} {tt : Td} {tk tv : Ed} (hN : X.N.Nodup) (hy : X.N[i]? = some y) (hyl : X.env.scope.names.lookup y = some .local)
    (hsw : swapsWith (.DictComp kx vx [⟨tg, iter, ifs, 0⟩] scope pos) (some (.Name y py)) spos.line X.env = pure true) (hi : DI X Γ tg iter ti) (ok : BlkOk X.N X.env.scope scope own)
    (hg : ∀ (s : Shared) (H : Hp) (C : Addr) (cl : List (Str × Addr)) (fp : List Addr), DG (X.blk s H scope (compEnvC scope cl C X.env) fp) Γ tg vs g) (ht : ∀ (s : Shared) (H : Hp) (C : Addr) (cl : List (Str × Addr)) (fp : List Addr), DTs (X.blk s H scope (compEnvC scope cl C X.env) fp) Γ ifs tt)
    (hk : ∀ (s : Shared) (H : Hp) (C : Addr) (cl : List (Str × Addr)) (fp : List Addr), DE (X.blk s H scope (compEnvC scope cl C X.env) fp) Γ kx tk)
    (he : ∀ (s : Shared) (H : Hp) (C : Addr) (cl : List (Str × Addr)) (fp : List Addr), DE (X.blk s H scope (compEnvC scope cl C X.env) fp) Γ vx tv) (hvs : own.map (·.2) = vs := by rfl) (hc : X.calm = true := by rfl) (hs : ∀ x, foldedSetIterable iter X.env x = pure x := by intro _; rfl) :
    DS X Γ (.Assign [.Name y py] (.DictComp kx vx [⟨tg, iter, ifs, 0⟩] scope pos) spos) (sSet i (eDc ti g tt tk tv vs)) :=
  ⟨PS.wk (ps_setDc hc hN hy hyl hsw hi.p ok (fun s H C cl fp => (hg s H C cl fp).p) (fun s H C cl fp => (ht s H C cl fp).p) (fun s H C cl fp => (hk s H C cl fp).p) (fun s H C cl fp => (he s H C cl fp).p) hs) fun E σ H ⟨R, ρ, n, fl, n', rp, e, q⟩ => by
    obtain ⟨d, m, e1, e⟩ := Mb_some e
    cases e
    rw [hvs]
    refine dc_up rp e1 fun Z us R' H' rp' g' hZ hnO h0 hZ' hR' hl ⟨rs, er, f⟩ => ?_
    subst er
    by_cases hio : i ∈ Γ.ow
    · exact q R' H' _ (rp'.setO hio hZ' hR' h0 (.dk hl f) fun j e hj _ he => hnO j e hj he) g'.same
    · exact q _ H' _ ((rp'.freeze hZ' hR' h0 hnO).set hio (.dk (.inl upd_same) hl (f.mono (same_new hR' _).le))) (g'.freeze hZ hR').same⟩
end
end Sh

set_option Elab.async false
set_option linter.all false
set_option maxRecDepth 100000
/-! defs that give a list or dict of their own -/
namespace Sh
open PySem L2 Nf
def spO (c : Cn) (W : Wd) (f : List D → M D) : Sp := fun vs H Q _ => ∃ R ds r n n', FzA c R vs ds ∧ HpOk ⟨c, W, [], H, R⟩ R H n ∧ f ds n = some (r, n') ∧ ∀ a o R' H', HpOk ⟨c, W, [], H, R⟩ R' H' n' → H a = none → H' a = some o → R' a = none → FzO c R' o r → Q (.ref a) H'
theorem spO_M {P : Program} {w : World} {K : PySem.W.Frag} {mg : Str → Option Value} {base : Heap} {k : Nat} {f : Addr} {fd : FuncData} {ps : List Str} {c : Cn} {W : Wd} {g : List D → M D} (F : FnOk P w K mg base CX0 k f fd ps (spO c W g)) : FnOk P w K mg base CX0 k f fd ps (spM c W g) :=
  F.imp fun vs H Q E ⟨R, ds, r, n, n', f, hp, e, q⟩ => ⟨R, ds, r, n, n', f, hp, e, fun a o R' H' hp' ha ha' hR fo => q _ _ H' (hp'.freeze ha' hR ha fo.nm) ((fo.mono (same_new hR o).le).fz upd_same)⟩
section
variable {X : Cx} {Γ : Gm}
def KxO (Γ : Gm) (E : Ends) (n' : Sx) (d : D) : Prop := ∀ a o R' H', HpOk Γ R' H' n' → Γ.H0 a = none → H' a = some o → R' a = none → FzO Γ.c R' o d → E.rt (.ref a) H'
def upSO (Γ : Gm) (t : Sd → M D) : TS := fun E σ H => ∃ R ρ n d n', Rp Γ R H σ ρ n ∧ t ρ n = some (d, n') ∧ KxO Γ E n' d
structure DBO (X : Cx) (Γ : Gm) (s : List Stmt) (t : Sd → M D) : Prop where
  p : PSs X s (upSO Γ t)
theorem dbo_ret {e : Expr} {t : Ed} {pos : Pos} (h : DO X Γ.o e t) : DBO X Γ [.Return (some e) pos] t := ⟨PSs.wk (pss_one (ps_ret h.p)) fun E σ H ⟨R, ρ, n, d, n', rp, e, q⟩ =>
  ⟨_, ρ, n, d, n', rp.opn, e, fun a o R' H' rp' g' ha ha' hR h0 hn f => q a o R' H' rp'.hp.c h0 ha' hR f⟩⟩
def bSeqO (t : Bd) (u : Sd → M D) : Sd → M D := fun ρ => Mb (t ρ) fun fl => match fl with
  | .next ρ' => u ρ'
  | _ => fun _ => none
theorem dbo_cons {st : Stmt} {rest : List Stmt} {t : Bd} {u : Sd → M D} (h1 : DS X Γ st t) (h2 : DBO X Γ rest u) : DBO X Γ (st :: rest) (bSeqO t u) := ⟨PSs.wk (pss_cons h1.p h2.p) fun E σ H ⟨R, ρ, n, d, n', rp, e, q⟩ => by
  obtain ⟨fl, m, e1, e2⟩ := Mb_some e
  refine ⟨R, ρ, n, fl, m, rp, e1, ?_⟩
  cases fl with
  | next ρ' => exact fun R1 H1 σ1 rp1 S1 => ⟨R1, ρ', m, d, n', rp1, e2, q⟩
  | ret d => cases e2
  | brk ρ' => cases e2
  | cont ρ' => cases e2⟩
def fnO (k j : Nat) (t : Sd → M D) : List D → M D := fun ds n => if ds.length = k then t (ds.map some ++ List.replicate (j - ds.length) none) n else none
theorem fnO_e {k j : Nat} {n m : Sx} {t : Sd → M D} {ds : List D} {d : D} (hl : ds.length = k) (h : t (ds.map some ++ List.replicate (j - ds.length) none) n = some (d, m)) : fnO k j t ds n = some (d, m) := by unfold fnO; rw [if_pos hl]; exact h
theorem bSeqO_n {t : Bd} {u : Sd → M D} {ρ ρ' : Sd} {n m : Sx} (h : t ρ n = some (.next ρ', m)) : bSeqO t u ρ n = u ρ' m := by unfold bSeqO Mb; rw [h]
theorem fn_okO {P : Program} {w : World} {K : PySem.W.Frag} {mg : Str → Option Value} {base : Heap} {x qual : Str} {params : Arguments} {body : List Stmt} {scope : Scope} {dvs : List V} {kws : List (Str × V)} {fa : Addr} {fd : FuncData} {N ps : List Str} {k : Nat} {c : Cn} {W : Wd} {t : Sd → M D} (ow : List Nat)
    (F : FunD K x qual params body scope dvs kws fa fd) (S : FnScope N ps scope) (how : ow.all (fun i => ps.length ≤ i) = true)
    (hb : ∀ (cdv : Value) (A : Around) (outer : List Env) (s : Shared) (H : Hp) (E : XK) (R : Hp), Room k (A.deeper (PyProof.Rows.envOfC qual scope s.heap.objs.size fa cdv)) → DBO (cxOf CX0 P w K mg base N qual scope fa cdv A outer s H E).nox ⟨c, W, ow, H, R⟩ body t) :
    FnOk P w K mg base CX0 (k + 1) fa fd ps (spO c W (fnO ps.length N.length t)) := by
  refine F.ok S (fun vs H Q E h => ?_) (fun cdv A outer s H vs Q E hr h => ?_)
  · obtain ⟨R, ds, r, n, n', f, _, e, _⟩ := h
    rw [f.len]; exact (ite_some e).1
  · obtain ⟨R, ds, r, n, n', f, hp, e, q⟩ := h
    obtain ⟨hl, e⟩ := ite_some e
    refine ⟨_, PSs.nox (hb cdv A outer s H E R hr).p, ?_⟩
    have rp := rp_start (c := c) (W := W) (ow := ow) (N := N) (fun i hi => by
      have := List.all_eq_true.mp how i hi
      rw [f.len, hl]; exact of_decide_eq_true this) f hp
    exact ⟨R, _, n, r, n', rp, e, fun a o R' H' k h0 ha hR fo => q a o R' H' ⟨k.same, k.dj, k.d0, k.wd, k.keep, k.r0, k.new, k.m⟩ h0 ha hR fo⟩
section
variable {k : Nat} {fa : Addr} {fd : FuncData} {ps : List Str} {f : List D → M D} {x : Str} {p pos : Pos} {e a : Expr} {es : List Expr} {t : Ad} {ta : Ed}
theorem do_call (F : FnOk X.prog X.w X.K X.mg X.base CX0 k fa fd ps (spO Γ.c Γ.W f)) (hr : Room k X.A) (hg : Gl X x) (hm : X.mg x = some (.ref fa)) (hk : PySem.W.keepIn X.K (.ref fa) = true) (hb : Binds X.K fd ps []) (ha : DA X Γ (e :: es) t)
    (he : starEach (e :: es) X.env = (false, eval e X.env) :: starEach es X.env := by rfl) (hpl : (backTo pos (starEach es X.env)).any (·.1) = false := by rfl) (hdb : (x == ("__debug__" : Str)) = false := by decide) : DO X Γ (.Call (.Name x p) (e :: es) [] pos) (eCall f t) :=
  ⟨PE.wk (pe_call F hr hg hm hk hb .nil pass0 ha.p hdb he hpl) fun σ H Q ⟨R, ρ, n, r, n', rp, e, q⟩ => by
    obtain ⟨ds, m, e1, e⟩ := Mb_some e
    refine ⟨R, ρ, n, ds, m, rp, e1, fun vs R1 H1 rp1 g1 z1 => ?_⟩
    show spO Γ.c Γ.W f (vs ++ []) H1 Q _
    rw [List.append_nil]
    exact ⟨R1, ds, r, m, n', z1, rp1.hp.enter, e, fun a o R2 H2 k ha ha' hR fo => q a o R2 H2 (rp1.then k) (g1.trans (HpOk.go k)) (g1.nn a ha) ha' hR (rp1.hp.nn ha) (rp1.noO ha) fo⟩⟩
theorem do_rev {kk : Nat} {p1 p2 p3 : Pos} (ha : DE X Γ a ta) (hK : X.K = Γ.c.K := by rfl) : DO X Γ (.Subscript a (.Slice none none (some (.UnaryOp .USub (.Constant (.int 1) kk p1) p2)) p3) pos) (e1 fRev ta) :=
  ⟨PE.wk (pe_revL ha.p) fun σ H Q ⟨R, ρ, n, r, n', rp, e, q⟩ => by
    obtain ⟨x, m, e1, e⟩ := Mb_some e
    obtain ⟨ee, rfl⟩ := Mo_some e
    refine ⟨R, ρ, n, x, _, rp, e1, fun v R1 H1 rp1 S1 z1 => ?_⟩
    cases z1 with
    | lst hh lh f =>
      cases ee
      exact ⟨_, _, rfl, SqL.of (rp1.hp.same.l hh), fun p hp => q p _ R1 _ (rp1.lay0 hp) (S1.lay0 hp) (S1.nn p hp) upd_same (rp1.hp.same.free hp) (rp1.hp.nn hp) (rp1.noO hp) (.lst (by rw [List.length_reverse]; exact lh) f.rev)⟩
    | _ => cases ee⟩
end
end
end Sh

set_option Elab.async false
set_option linter.all false
set_option maxRecDepth 100000
/-! a comprehension over an empty dict -/
namespace Sh
open PySem L2 Nf
def fK0 : D → Option D
  | .dk [] [] => some (.lst [])
  | _ => none
theorem pe_fl {X : Cx} {e : Expr} : PE X e fun _ _ _ => False := ⟨fun pins s σ H Q I q => q.elim⟩
theorem pg_fl {X : Cx} {e : Expr} : PG X e fun _ _ _ _ => False := ⟨fun pins s σ H v u Q I r q => q.elim⟩
theorem pts_fl {X : Cx} {es : List Expr} : PTs X es fun _ _ _ => False := ⟨fun pins s σ H Q I q => q.elim⟩
section
variable {X : Cx} {Γ : Gm}
theorem d_lcK0 {i : Nat} {elt tg iter : Expr} {ifs : List Expr} {scope : Scope} {own : List (Str × Nat)} {pos : Pos} (hN : X.N.Nodup) (hv : PE X iter (tVar i)) (ok : BlkOk X.N X.env.scope scope own) (hi' : Γ.ow.contains i = false := by rfl) (hc : X.calm = true := by rfl) (hs : ∀ x, foldedSetIterable iter X.env x = pure x := by intro _; rfl) :
    DE X Γ (.ListComp elt [⟨tg, iter, ifs, 0⟩] scope pos) (e1 fK0 (eVar i)) := by
  have hi := nmem_of hi'
  have A : PE X (.ListComp elt [⟨tg, iter, ifs, 0⟩] scope pos) (tLc (iKeys (tVar i)) (fun _ _ _ _ => False) (fun _ _ _ => False) (fun _ _ _ => False) (own.map (·.2))) := pe_lc hc hN (pi_keys hv) ok (fun _ _ _ _ _ => pg_fl) (fun _ _ _ _ _ => pts_fl) (fun _ _ _ _ _ => pe_fl) hs
  refine ⟨PE.wk (PE.or (pe_lock A) A) fun σ H Q ⟨R, ρ, n, r, n', rp, e, q⟩ => ?_⟩
  obtain ⟨d, m, e1, e2⟩ := Mb_some e
  obtain ⟨e3, rfl⟩ := Mo_some e2
  obtain ⟨e4, rfl⟩ := eVar_some e1
  obtain ⟨v, h1, h2⟩ := rp.fz i d hi e4
  cases h2 with
  | @dk a kvs ds hr hz f =>
    cases kvs with
    | cons _ _ => cases ds <;> cases e3
    | nil =>
      cases f
      cases e3
      rcases hr with hr | ⟨o, hr⟩
      · have hH := rp.hp.same.st _ _ hr (by exact fun j e => nomatch e)
        refine .inl ⟨a, .dK [], hH, True.intro, fun od => ⟨_, h1, a, od, rfl, .inl ⟨[], upd_same, fun Z hZ => ?_⟩⟩⟩
        have ne : Z ≠ a := fun z => by subst z; rw [upd_same] at hZ; cases hZ
        have hZ' : H Z = none := by rw [upd_ne ne] at hZ; exact hZ
        refine lc_it (g := fun _ _ _ _ => False) (tt := fun _ _ _ => False) (te := fun _ _ _ => False) (vs := own.map (·.2)) (σ := σ) (walk_keys (kvs := [])) (fun _ H' => H' = upd (upd H a (.frz od (.dK []))) Z (.lst [])) rfl ?_ (fun i x H1 H2 hi => absurd hi (Nat.not_lt_zero i)) ?_
        · rintro i H' _ rfl
          rw [upd_ne (Ne.symm ne)]; exact upd_same
        · rintro H' rfl
          refine ⟨by rw [upd_ne (Ne.symm ne)]; exact upd_same, ?_⟩
          have eq : upd (upd (upd H a (.frz od (.dK []))) Z (.lst [])) a (.dK []) = upd H Z (.lst []) := by
            funext b
            by_cases hb : b = a
            · subst hb; rw [upd_same, upd_ne (Ne.symm ne)]; exact hH.symm
            · rw [upd_ne hb]
              by_cases hb2 : b = Z
              · subst hb2; rw [upd_same, upd_same]
              · rw [upd_ne hb2, upd_ne hb2, upd_ne hb]
          rw [eq]
          exact q _ _ _ (rp.lay hZ') (rp.go hZ') (.lst upd_same (Nat.zero_le _) .nil)
      · have hH := rp.hp.same.st _ _ hr (by exact fun j e => nomatch e)
        refine .inr ⟨_, h1, a, o, rfl, .inl ⟨[], hH, fun Z hZ => ?_⟩⟩
        refine lc_it (g := fun _ _ _ _ => False) (tt := fun _ _ _ => False) (te := fun _ _ _ => False) (vs := own.map (·.2)) (σ := σ) (walk_keys (kvs := [])) (fun _ H' => H' = upd H Z (.lst [])) rfl ?_ (fun i x H1 H2 hi => absurd hi (Nat.not_lt_zero i)) ?_
        · rintro i H' _ rfl
          rw [upd_ne (ne_of_none hH hZ)]; exact hH
        · rintro H' rfl
          exact q _ _ _ (rp.lay hZ) (rp.go hZ) (.lst upd_same (Nat.zero_le _) .nil)
  | _ => cases e3
end
end Sh

set_option Elab.async false
set_option linter.all false
set_option maxRecDepth 100000
namespace Nf
open PySem PySem.Spec PyProof.Rows L2
/-! ### tuple(d.items()) -/
section
variable {prog : Program} {w : World} {K : Type} [DecidableEq K] {knd : KeyKind prog w K} {A : Around} {E : Value → Shared → Prop} {s : Shared} {r d : Addr} {kvs : List (K × Value)} {ep : Nat}
theorem code_tup_items {Q : Value → Shared → Prop} (hh : A.handled = none) (hv : s.heap.IsItemsView r d) (hm : s.heap.DictAt knd d kvs ep) (hn : kvs.length ≤ sizeLine)
    (h : ∀ (h' : Heap) (tk : Nat) (as : List Addr), (∀ b o, s.heap.get? b = some o → h'.get? b = some o) → as.length = kvs.length → PySem.W.KdxG knd kvs s.heap.objs.size h' as →
      Q (.ref h'.objs.size) { s with heap := h'.push { cls := .type "tuple", data := .seq (as.map Value.ref).toArray }, toks := tk }) :
    codeAny (model prog w) A (.call (.builtin "tuple.__new__") ⟨[.type "tuple", .ref r], []⟩) (wants Q E) s := by
  refine codeAny_of_tree ?_
  show wpAny _ A.in1 (do
    checkBuiltinCall "tuple.__new__" ⟨[.type "tuple", .ref r], []⟩
    again (.builtin "tuple.__new__" ⟨[.type "tuple", .ref r], []⟩)) _ _ s
  refine wpAny_bind (wpAny_of_eq (F.newCall_tuple_1 _) ?_)
  refine wpAny_pure ⟨plainId_quiet F.plain_tuple_new _, codeAny_builtin F.entry_tuple_new ?_⟩
  rw [Around.under_plainId F.plain_tuple_new _]
  have s1 := sub_tuple_self
  have s2 := init_tuple_lookup
  have s3 := madeHere_tuple
  have ty : s.TypeIs (.ref r) "dict_items" := let ⟨o, ho, hc, _⟩ := hv; ⟨o, ho, hc⟩
  have nt2 : (Value.type "dict_items" == Value.type "tuple") = false := by decide
  have nt : "dict_items" ≠ "tuple" := by decide
  have hh1 : A.in1.handled = none := hh
  wp_walk using wpAny_typeOf ty, PySem.W.kdx_collect (knd := knd) (kvs := kvs) (ep := ep) (A := A.in1) hh1 hv hm hn
  intro h' tk as hk hl hG
  show wpAny _ _ (Builtin.Tuple.tupleExact (as.map Value.ref).toArray >>= fun v => ret v) _ _ _
  unfold Builtin.Tuple.tupleExact
  refine wpAny_bind (wpAny_newObj_type (wpAny_pure (h h' tk as hk hl hG)) ?_)
  show (as.map Value.ref).toArray.size ≤ sizeLine
  rw [List.size_toArray, List.length_map, hl]
  exact hn
theorem call_tup_items {Q : Value → Shared → Prop} (hh : A.handled = none) (hv : s.heap.IsItemsView r d) (hm : s.heap.DictAt knd d kvs ep) (hn : kvs.length ≤ sizeLine)
    (h : ∀ (h' : Heap) (tk : Nat) (as : List Addr), (∀ b o, s.heap.get? b = some o → h'.get? b = some o) → as.length = kvs.length → PySem.W.KdxG knd kvs s.heap.objs.size h' as →
      Q (.ref h'.objs.size) { s with heap := h'.push { cls := .type "tuple", data := .seq (as.map Value.ref).toArray }, toks := tk }) :
    wpAny (model prog w) A (call (.type "tuple") [.ref r]) Q E s := by
  refine callType_codes (Q₁ := fun obj z => z.TypeIs obj "tuple" ∧ Q obj z) F.called_tuple (F.typeCall_tuple_1 _) F.entry_object_init ?_ fun obj z hz => ?_
  · exact code_tup_items (knd := knd) (kvs := kvs) (ep := ep) (A := A.in1) hh hv hm hn fun h' tk as hk hl hG => ⟨⟨_, Heap.get?_push_size _ rfl, rfl⟩, h h' tk as hk hl hG⟩
  · exact ⟨hz.1, F.args_object_init_2 obj _, object_init_meets F.called_tuple.init.lookup F.called_tuple.made (by decide) prog w A.in1 _ z ⟨hz.1, rfl, hz.2⟩⟩
end
section
variable {X : Cx} {e : Expr} {te : TE} {p apos cpos pos : Pos}
def rItemsTup : V → Hp → VK → Prop := fun x H Q => ∃ (d : Addr) (kvs : List (Key × V)), x = .ref d ∧ H d = some (.dK kvs) ∧
  ∀ (H' : Hp) (p : Addr) (ts : List Addr), Same H H' → H p = none → (∀ t ∈ ts, H t = none) → H' p = some (.tup (ts.map V.ref)) → Paired (fun (t : Addr) (q : Key × V) => H' t = some (.tup [kV q.1, q.2])) ts kvs → Q (.ref p) H'
def tTupItems (te : TE) : TE := fun σ H Q => te σ H fun x H1 => rItemsTup x H1 Q
theorem items_tup_laid {pins : List (Addr × Obj)} {σ : L2.St} {H : Hp} {s : Shared} {h' : Heap} {tk : Nat} {kvs : List (Key × V)} {vs : List (Key × Value)} {as : List Addr} (I : Inv X pins σ H s) (hz : kvs.length ≤ sizeLine) (kv : KV kvs vs)
    (hk : ∀ b o, s.heap.get? b = some o → h'.get? b = some o) (hl : as.length = vs.length) (hG : PySem.W.KdxG (mixKind X.prog X.w) vs s.heap.objs.size h' as) :
    ∃ H' : Hp, Same H H' ∧ H h'.objs.size = none ∧ (∀ t ∈ as, H t = none) ∧ H' h'.objs.size = some (.tup (as.map V.ref)) ∧ Paired (fun (t : Addr) (q : Key × V) => H' t = some (.tup [kV q.1, q.2])) as kvs ∧
      Inv X pins σ H' { s with heap := h'.push { cls := .type "tuple", data := .seq (as.map Value.ref).toArray }, toks := tk } := by
  have lk : kvs.length = vs.length := Paired.length kv
  have I1 : Inv X pins σ H { s with heap := h', toks := tk } := I.kept (t' := tk) hk
  have hSn : h'.objs.size ∉ as := fun z => Nat.lt_irrefl _ (hG.there z)
  have nd : as.Nodup := List.Pairwise.imp (fun {a b} (h : a < b) => Nat.ne_of_lt h) hG.rise
  have new : ∀ t ∈ as, H t = none := fun t ht => I.hok.fresh (Nat.le_of_lt (hG.above t ht))
  have newS : H h'.objs.size = none := I1.hok.fresh (Nat.le_refl _)
  have atP := LiI.putT_at as kvs (upd H h'.objs.size (.tup (as.map V.ref))) (by omega) nd
  have off : ∀ b, b ∉ as → b ≠ h'.objs.size → LiI.putT (upd H h'.objs.size (.tup (as.map V.ref))) as kvs b = H b := fun b h1 h2 => by rw [LiI.putT_off as kvs _ h1, upd_ne h2]
  have low : ∀ b o, s.heap.get? b = some o → b ∉ as ∧ b ≠ h'.objs.size := fun b o e => ⟨fun z => absurd (Heap.lt_size e) (Nat.not_lt.mpr (Nat.le_of_lt (hG.above b z))), Nat.ne_of_lt (Heap.lt_size (hk b o e))⟩
  have kp : ∀ b u, H b = some u → (LiI.putT (upd H h'.objs.size (.tup (as.map V.ref))) as kvs) b = some u := fun b u e => by
    rw [off b (fun z => by rw [new b z] at e; cases e) (fun z => by rw [z, newS] at e; cases e)]
    exact e
  have eS : LiI.putT (upd H h'.objs.size (.tup (as.map V.ref))) as kvs h'.objs.size = some (.tup (as.map V.ref)) := by rw [LiI.putT_off as kvs _ hSn, upd_same]
  have hk2 : ∀ b o, s.heap.get? b = some o → (h'.push { cls := .type "tuple", data := .seq (as.map Value.ref).toArray }).get? b = some o := fun b o e => Heap.get?_push_of_some _ (hk b o e)
  refine ⟨LiI.putT (upd H h'.objs.size (.tup (as.map V.ref))) as kvs, kp, newS, new, eS, atP, ?_⟩
  refine I.call' (ch := []) rfl ⟨fun b o q _ _ _ => hk2 b o q, fun b o q _ _ _ => ⟨o.slots, hk2 b o q⟩, fun b o q n _ => ?_, fun b o q _ => ⟨o, hk2 b o q⟩, fun b xs q => kp b _ q, fun b o u q => kp b _ q, fun b ps q => ⟨#[], by rw [kp b _ q]; simp⟩⟩ (fun b u q => ?_) I.bare fun b z => by simp at z
  · obtain ⟨z1, z2⟩ := low b o q
    rw [off b z1 z2]
    exact n
  · by_cases hb : b ∈ as
    · obtain ⟨j, pk, e1, e2, e3⟩ := LiI.paired_ix atP hb
      rw [e3] at q
      cases q
      obtain ⟨key, k, x, f1, f2, f3⟩ := hG.pairs j b e1
      obtain ⟨qv, g1, g2, g3⟩ := LiI.paired_get kv e2
      rw [f1] at g1
      cases g1
      have rk : RelV (kV pk.1) key := by
        rw [g2]
        exact relV_key (show keyIs k key = true from f2)
      exact ⟨by show 2 ≤ sizeLine; decide, [key, x], .cons rk (.cons g3 .nil), ⟨_, Heap.get?_push_of_some _ f3, rfl, _, rfl⟩⟩
    · by_cases hb2 : b = h'.objs.size
      · rw [hb2] at q ⊢
        rw [eS] at q
        cases q
        refine ⟨by rw [List.length_map]; omega, as.map Value.ref, LiI.vals_refs as, ?_⟩
        exact IsTup.new _ _
      · rw [off b hb hb2] at q
        exact (I.hok b u q).stay (fun d v _ y => hk2 d v y) (fun d y => kp d _ y) fun d xs y => kp d _ y
theorem pe_tupItems (hc : X.calm = true) (he : PE X e te) (hg : Gl X "tuple") (hm : X.mg "tuple" = none) (hbase : attributeBase e "items" X.env (eval e X.env) = eval e X.env := by rfl) (hline : (apos.endLine == cpos.line) = true := by rfl)
    (hs : starEach [.Call (.Attribute e "items" apos) [] [] cpos] X.env = (false, eval (.Call (.Attribute e "items" apos) [] [] cpos) X.env) :: starEach [] X.env := by rfl) :
    PE X (.Call (.Name "tuple" p) [.Call (.Attribute e "items" apos) [] [] cpos] [] pos) (tTupItems te) := by
  refine ⟨fun pins s σ H Q I hq => ?_⟩
  refine wpAny_Call_Name_kw (ld_blt I hg hm (show bootBuiltins "tuple" = some (.type "tuple") by decide +kernel) ?_)
  refine PyProof.Rows.callWith_type1 ?_ hs rfl
  rw [hs]
  show wpAny _ _ (spliced ((false, eval (.Call (.Attribute e "items" apos) [] [] cpos) X.env) :: backTo pos (starEach [] X.env))) _ _ s
  refine Calls.spliced_cons ?_
  refine wpAny_Call_method (T := "dict") (id := "dict.items") hbase rfl hline F.plainAttrs_dict F.slot_dict_items F.type_dict_items (thn (he.run pins s σ H _ I hq) fun u s1 ⟨x, H1, I1, rx, d, kvs, ex, hd, q⟩ => ?_)
  subst ex
  obtain rfl : u = Value.ref d := rx
  obtain ⟨hz, hs0, vs, kv, hdo⟩ := I1.hok d _ hd
  obtain ⟨ep, hat⟩ := hdo.dictAt
  have lk : kvs.length = vs.length := Paired.length kv
  have I2 : Inv X pins σ H1 { s1 with heap := s1.heap.push { cls := .type "dict_items", data := .fields #[.ref d] } } := I1.kept (t' := s1.toks) fun b ob q => Heap.get?_push_of_some _ q
  refine ⟨hdo.typeIs, hdo.mapOf.noDict, ?_⟩
  show wpAny _ _ (callWith cpos (.builtin "dict.items") [.ref d] [] []) _ X.xe s1
  refine method_meetsIn F.slot_dict_items F.entry_dict_items rfl (PySem.evalArgs_none ⟨rfl, hdo.typeIs, F.args_dict_items_1 _, _, meets_dict_items (mixKind X.prog X.w) d hs0, ⟨vs, hdo⟩, ?_⟩)
  refine Calls.spliced_nil ?_
  refine call_tup_items (knd := mixKind X.prog X.w) (kvs := vs) (ep := ep) (I1.ok.hd hc) ⟨_, Heap.get?_push_size _ rfl, rfl, rfl⟩ (hat.push _) (by omega) fun h' tk as hk hl hG => ?_
  obtain ⟨H', k1, k2, k3, k4, k5, J⟩ := items_tup_laid (tk := tk) I2 hz kv hk hl hG
  exact ⟨.ref _, H', J, rfl, q H' _ as k1 k2 k3 k4 k5⟩
end
end Nf

set_option Elab.async false
set_option linter.all false
set_option maxRecDepth 100000
/-! shared objects, which change: made, read, written -/
namespace Sh
open PySem L2 Nf
def gS (j : Nat) : M D := fun n => (n.2[j]?).map (·, n)
def pS (j : Nat) (d : D) : M Unit := fun n => if d.flatO = true then some ((), (n.1, n.2.set j d)) else none
def aS (d : D) : M D := fun n => if d.flatO = true then some (.shr n.2.length, (n.1, n.2 ++ [d])) else none
/-- what a thing holds -/
def shC : D → M D
  | .shr j => gS j
  | d => Mp d
section
variable {Γ : Gm} {R R' H H' : Hp} {σ : L2.St} {ρ : Sd} {n n' : Sx}
theorem gS_some {j : Nat} {d : D} (e : gS j n = some (d, n')) : n.2[j]? = some d ∧ n' = n := by
  unfold gS at e
  obtain ⟨x, h1, h2⟩ := Option.map_eq_some_iff.mp e
  cases h2
  exact ⟨h1, rfl⟩
theorem HpOk.shr (h : HpOk Γ R H n) {a : Addr} {j : Nat} {c : D} (m : R a = some (mrk j)) (e : n.2[j]? = some c) : ∃ o, H a = some o ∧ FzO Γ.c R o c := by
  obtain ⟨o, d, h1, h2, h3, _⟩ := h.m.ms a j m
  rw [e] at h2; cases h2
  exact ⟨o, h1, h3⟩
theorem HpOk.put {a : Addr} {j : Nat} {o : HO} {c : D} (h : HpOk Γ R H n) (m : R a = some (mrk j)) (f : FzO Γ.c R o c) (fl : c.flatO = true) : HpOk Γ R (upd H a o) (n.1, n.2.set j c) := by
  have had : a ∉ Γ.W.dom := fun z => by rw [h.dj a z] at m; cases m
  refine ⟨⟨fun b u e nu => ?_, fun b i e => ?_⟩, h.dj, h.d0, ?_, h.keep.mutM m, h.r0, h.new, ⟨fun b i e => ?_, h.m.mi⟩⟩
  · have q : b ≠ a := fun z => by rw [z, m] at e; cases e; exact nu j rfl
    rw [upd_ne q]; exact h.same.st b u e nu
  · by_cases q : b = a
    · rw [q, upd_same]; exact fun z => nomatch z
    · rw [upd_ne q]; exact h.same.th b i e
  · refine Γ.W.only n.1 H _ h.wd fun b mb => ?_
    have q : b ≠ a := fun z => had (z ▸ mb)
    rw [upd_ne q]
  · obtain ⟨u, d, h1, h2, h3, h4⟩ := h.m.ms b i e
    by_cases q : b = a
    · subst q
      rw [m] at e
      have ij : j = i := mrk_inj (Option.some.inj e)
      subst ij
      exact ⟨o, c, upd_same, by rw [List.getElem?_set_self (List.getElem?_eq_some_iff.mp h2).1], f, fl⟩
    · have ij : j ≠ i := fun z => q (h.m.mi b a i e (z ▸ m))
      exact ⟨u, d, by rw [upd_ne q]; exact h1, by rw [List.getElem?_set_ne ij]; exact h2, h3, h4⟩
theorem Rp.shrP {a : Addr} {j : Nat} {o : HO} {c : D} (h : Rp Γ R H σ ρ n) (m : R a = some (mrk j)) (f : FzO Γ.c R o c) (fl : c.flatO = true) : Rp Γ R (upd H a o) σ ρ (n.1, n.2.set j c) := by
  refine ⟨h.len, h.fz, fun i d hi e => ?_, h.dist, h.hp.put m f fl⟩
  obtain ⟨b, u, h1, h2, h3, h4, h5⟩ := h.own i d hi e
  have q : b ≠ a := fun z => by rw [z, m] at h3; cases h3
  exact ⟨b, u, h1, by rw [upd_ne q]; exact h2, h3, h4, h5⟩
theorem Go.put {a : Addr} {j : Nat} {o : HO} (g : Go Γ R H R' H') (m : R' a = some (mrk j)) (hn : H' a ≠ none) : Go Γ R H R' (upd H' a o) := by
  refine ⟨g.same, g.keep.mutM m, g.new, fun b e => ?_⟩
  by_cases q : b = a
  · rw [q, upd_same] at e; cases e
  · rw [upd_ne q] at e; exact g.nn b e
/-- a new object becomes a shared one -/
theorem HpOk.shrN {p : Addr} {o : HO} {d : D} (h : HpOk Γ R H n) (hp : H p = some o) (hR : R p = none) (h0 : Γ.H0 p = none) (f : FzO Γ.c R o d) (fl : d.flatO = true) : HpOk Γ (upd R p (mrk n.2.length)) H (n.1, n.2 ++ [d]) := by
  have hpd : p ∉ Γ.W.dom := fun m => h.d0 p m h0
  have S := same_new hR (mrk n.2.length)
  have old : ∀ a j, upd R p (mrk n.2.length) a = some (mrk j) → (a = p ∧ j = n.2.length) ∨ (a ≠ p ∧ R a = some (mrk j)) := fun a j e => by
    by_cases q : a = p
    · subst q; rw [upd_same] at e; exact .inl ⟨rfl, (mrk_inj (Option.some.inj e)).symm⟩
    · rw [upd_ne q] at e; exact .inr ⟨q, e⟩
  have lt : ∀ a j, R a = some (mrk j) → j < n.2.length := fun a j e => by
    obtain ⟨_, _, _, h2, _⟩ := h.m.ms a j e
    exact (List.getElem?_eq_some_iff.mp h2).1
  refine ⟨⟨fun a u e nu => ?_, fun a j e => ?_⟩, fun a m => ?_, h.d0, h.wd, h.keep.up S, h.r0.trans S, fun a e => ?_, ⟨fun a j e => ?_, fun a b j ea eb => ?_⟩⟩
  · by_cases q : a = p
    · subst q; rw [upd_same] at e; cases e; exact absurd rfl (nu _)
    · rw [upd_ne q] at e; exact h.same.st _ _ e nu
  · rcases old a j e with ⟨rfl, _⟩ | ⟨_, e'⟩
    · rw [hp]; exact fun z => nomatch z
    · exact h.same.th a j e'
  · have : a ≠ p := fun q => hpd (q ▸ m)
    rw [upd_ne this]; exact h.dj a m
  · by_cases q : a = p
    · subst q; exact .inr h0
    · rw [upd_ne q] at e; exact h.new a e
  · rcases old a j e with ⟨rfl, rfl⟩ | ⟨_, e'⟩
    · exact ⟨o, d, hp, by show (n.2 ++ [d])[n.2.length]? = _; rw [List.getElem?_append_right (Nat.le_refl _), Nat.sub_self]; rfl, f.mono S.le, fl⟩
    · obtain ⟨u, d', h1, h2, h3, h4⟩ := h.m.ms a j e'
      exact ⟨u, d', h1, by show (n.2 ++ [d])[j]? = _; rw [List.getElem?_append_left (lt a j e')]; exact h2, h3.mono S.le, h4⟩
  · rcases old a j ea with ⟨ra, rj⟩ | ⟨na, ea⟩
    · rcases old b j eb with ⟨rb, _⟩ | ⟨_, eb⟩
      · rw [ra, rb]
      · have := lt b j eb; omega
    · rcases old b j eb with ⟨rb, rj⟩ | ⟨_, eb⟩
      · have := lt a j ea; omega
      · exact h.m.mi a b j ea eb
theorem Rp.shrN {p : Addr} {o : HO} {d : D} (h : Rp Γ R H σ ρ n) (hp : H p = some o) (hR : R p = none) (h0 : Γ.H0 p = none) (hn : NoO Γ σ ρ p) (f : FzO Γ.c R o d) (fl : d.flatO = true) : Rp Γ (upd R p (mrk n.2.length)) H σ ρ (n.1, n.2 ++ [d]) := by
  have S := same_new hR (mrk n.2.length)
  refine ⟨h.len, fun i d hi e => ?_, fun i d hi e => ?_, h.dist, h.hp.shrN hp hR h0 f fl⟩
  · obtain ⟨v, h1, h2⟩ := h.fz i d hi e
    exact ⟨v, h1, h2.mono S.le⟩
  · obtain ⟨a, u, h1, h2, h3, h4, h5⟩ := h.own i d hi e
    have : a ≠ p := fun z => hn i d hi e (z ▸ h1)
    exact ⟨a, u, h1, h2, by rw [upd_ne this]; exact h3, h4, h5.mono S.le⟩
end
section
variable {X : Cx} {Γ : Gm} {a b e f o kx vx : Expr} {ta tb tc tk tv : Ed} {pos pos' apos cpos p : Pos}
theorem Fz.shr_inv {c : Cn} {R : Hp} {v : V} {j : Nat} (h : Fz c R v (.shr j)) : ∃ a, v = .ref a ∧ R a = some (mrk j) := by
  cases h with | shr m => exact ⟨_, rfl, m⟩
/-- an object of one's own is shared from now on -/
def eShr (t : Ed) : Ed := fun ρ => Mb (t ρ) aS
theorem d_shr {t : Ed} (h : DO X Γ e t) : DE X Γ e (eShr t) := ⟨PE.wk h.p fun σ H Q ⟨R, ρ, n, r, n', rp, e, q⟩ => by
  obtain ⟨d, m, e1, e2⟩ := Mb_some e
  obtain ⟨fl, e3⟩ := ite_some e2
  cases e3
  exact ⟨R, ρ, n, d, m, rp, e1, fun a o R' H' rp' g' ha ha' hR h0 hn f => q _ _ H' (rp'.shrN ha' hR h0 hn f fl) (g'.freeze ha hR) (.shr upd_same)⟩⟩
/-- f of what x holds -/
def e1S (f : D → Option D) (ta : Ed) : Ed := fun ρ => Mb (ta ρ) fun x => Mb (shC x) fun c => Mo (f c)
/-- f of what x holds and y -/
def e2S (f : D → D → Option D) (ta tb : Ed) : Ed := fun ρ => Mb (ta ρ) fun x => Mb (tb ρ) fun y => Mb (shC x) fun c => Mo (f c y)
/-- f of x and what y holds -/
def e2R (f : D → D → Option D) (ta tb : Ed) : Ed := fun ρ => Mb (ta ρ) fun x => Mb (tb ρ) fun y => Mb (shC y) fun c => Mo (f x c)
theorem d_ixS (hu : X.A.units + 64 < cLine) (ha : DE X Γ a ta) (hb : DE X Γ b tb) (hs : PlainIx b := by exact fun _ _ => rfl) (hn : NoSl b := by exact fun _ _ => rfl) (hK : X.K = Γ.c.K := by rfl) : DE X Γ (.Subscript a b pos) (e2S fDG ta tb) :=
  ⟨PE.wk (PE.or (d_ixD hu ha hb hs hn hK).p (PE.or (pe_ix ix_seq ha.p hb.p hs) (pe_dget (by omega) ha.p hb.p hn))) fun σ H Q ⟨R, ρ, n, r, n', rp, e, q⟩ => by
    obtain ⟨x, m, e1, e3⟩ := Mb_some e
    obtain ⟨y, m2, e2', e4⟩ := Mb_some e3
    obtain ⟨c, m3, e5, e6⟩ := Mb_some e4
    by_cases hx : ∃ j, x = .shr j
    · obtain ⟨j, rfl⟩ := hx
      obtain ⟨ec, rfl⟩ := gS_some e5
      obtain ⟨ee, rfl⟩ := Mo_some e6
      by_cases hd : ∃ ks vs, c = .dk ks vs
      · obtain ⟨ks, vs, rfl⟩ := hd
        refine .inr (.inr ⟨R, ρ, n, _, m, rp, e1, fun v R1 H1 rp1 S1 z1 => ⟨R1, ρ, m, y, _, rp1, e2', fun u R2 H2 rp2 S2 z2 => ?_⟩⟩)
        obtain ⟨k, ek, ev⟩ := Option.bind_eq_some_iff.mp (show (keyD y).bind (fun k => dval ks vs k) = some r from ee)
        obtain ⟨a, rfl, hm⟩ := (z1.mono S2.le).shr_inv
        obtain ⟨o, ho, fo⟩ := rp2.hp.shr hm ec
        cases fo with
        | @dk kvs _ h2 h3 =>
          have hd := h3.dv (k := k)
          rw [ev] at hd
          obtain ⟨w, hw, fw⟩ := hd
          exact ⟨a, w, rfl, .inl ⟨kvs, k, .inl ho, z2.key ek, hw.symm⟩, q w R2 H2 rp2 (S1.trans S2) fw⟩
      · refine .inr (.inl ⟨R, ρ, n, _, m, rp, e1, fun v R1 H1 rp1 S1 z1 => ⟨R1, ρ, m, y, _, rp1, e2', fun u R2 H2 rp2 S2 z2 => ?_⟩⟩)
        obtain ⟨a, rfl, hm⟩ := (z1.mono S2.le).shr_inv
        obtain ⟨o, ho, fo⟩ := rp2.hp.shr hm ec
        cases fo with
        | dk _ _ => exact absurd ⟨_, _, rfl⟩ hd
        | @lst xs ds h2 h3 => cases y with
          | int i =>
            obtain ⟨v, h1, h4⟩ := h3.atI (show L2.atI ds i = some r from ee)
            cases z2
            exact .inl ⟨_, _, _, _, rfl, rfl, SqL.of ho, h1, q v R2 H2 rp2 (S1.trans S2) h4⟩
          | _ => cases ee
    · refine .inl ⟨R, ρ, n, r, n', rp, ?_, q⟩
      have e7 : Mo (fDG x y) m2 = some (r, n') := by
        cases x <;> first | (cases e5; exact e6) | exact absurd ⟨_, rfl⟩ hx
      exact (Mb_eq e1).trans ((Mb_eq e2').trans e7)⟩
/-! len -/
def fLenD : D → Option D
  | .dk ks _ => some (.int (ks.length : Nat))
  | x => fLen x
theorem call_lenD : CallR X (.builtin "len") (fun xs H Q => ∃ (a : Addr) (kvs : List (Key × V)), xs = [.ref a] ∧ Rd H a (.dK kvs) ∧ Q (.int (kvs.length : Nat)) H) := by
  intro pins s σ H vs us Q I rv h
  obtain ⟨a, kvs, rfl, e, q⟩ := h
  obtain ⟨u, rfl, ru⟩ := vals1 rv
  obtain rfl : u = Value.ref a := ru
  exact L2.d_len I e fun t s' I' => ⟨.int (kvs.length : Nat), H, I', ⟨t, rfl⟩, q⟩
theorem d_lenS {x : Str} (hg : Gl X x) (hm : X.mg x = none) (hv : bootBuiltins x = some (.builtin "len")) (ha : DE X Γ a ta) (hn : x ≠ "__name__" := by decide) (hdb : (x == ("__debug__" : Str)) = false := by decide) (hK : X.K = Γ.c.K := by rfl)
    (he : starEach [a] X.env = (false, eval a X.env) :: starEach [] X.env := by rfl) (hpl : (backTo pos (starEach [] X.env)).any (·.1) = false := by rfl) : DE X Γ (.Call (.Name x p) [a] [] pos) (e1S fLenD ta) :=
  ⟨PE.wk (pe_callB (call_len.or call_lenD) hg hm hv (da_cons ha da_nil he).p hn hdb he hpl) fun σ H Q ⟨R, ρ, n, r, n', rp, e, q⟩ => by
    obtain ⟨x, m, e1, e3⟩ := Mb_some e
    obtain ⟨c, m3, e5, e6⟩ := Mb_some e3
    obtain ⟨ee, rfl⟩ := Mo_some e6
    refine ⟨R, ρ, n, [x], m, rp, (Mb_eq e1).trans rfl, fun vs R1 H1 rp1 S1 z1 => ?_⟩
    obtain ⟨v, rfl, z⟩ := fzA1 z1
    by_cases hx : ∃ j, x = .shr j
    · obtain ⟨j, rfl⟩ := hx
      obtain ⟨ec, rfl⟩ := gS_some e5
      obtain ⟨a, rfl, hm⟩ := z.shr_inv
      obtain ⟨o, ho, fo⟩ := rp1.hp.shr hm ec
      cases fo with
      | @dk kvs ds h2 h3 =>
        cases ee
        rw [List.length_map] at q
        exact .inr ⟨a, kvs, rfl, .inl ho, q _ R1 H1 rp1 S1 (.int _)⟩
      | @lst xs ds h2 h3 =>
        cases ee
        exact .inl ⟨_, _, rfl, .inl ⟨_, SqL.of ho, rfl⟩, by rw [h3.len]; exact q _ R1 H1 rp1 S1 (.int _)⟩
    · have hc : c = x ∧ n' = m := by
        cases x <;> first | (cases e5; exact ⟨rfl, rfl⟩) | exact absurd ⟨_, rfl⟩ hx
      obtain ⟨rfl, rfl⟩ := hc
      cases z with
      | tup h l f => cases ee; exact .inl ⟨_, _, rfl, .inr ⟨_, hK ▸ rp1.hp.same.sqT h, rfl⟩, by rw [f.len]; exact q _ R1 H1 rp1 S1 (.int _)⟩
      | lst h l f => cases ee; exact .inl ⟨_, _, rfl, .inl ⟨_, SqL.of (rp1.hp.same.l h), rfl⟩, by rw [f.len]; exact q _ R1 H1 rp1 S1 (.int _)⟩
      | str y hy => cases ee; exact .inl ⟨_, _, rfl, ⟨hy, rfl⟩, q _ R1 H1 rp1 S1 (.int _)⟩
      | dk h l f =>
        cases ee
        rw [List.length_map] at q
        exact .inr ⟨_, _, rfl, rp1.hp.same.dk h, q _ R1 H1 rp1 S1 (.int _)⟩
      | shr _ => exact absurd ⟨_, rfl⟩ hx
      | _ => cases ee⟩
/-! x in d -/
/-- an operator whose second side may be shared -/
theorem d_cmpR {op : CmpOp} {r : R2} {f : D → D → Option D} (ho : OpR X (compareOp op) r) (hf : Op2 Γ r f) (hs : ∀ R H n σ ρ x dx a j c d (Q : VK), f dx c = some d → Rp Γ R H σ ρ n → Fz Γ.c R x dx → R a = some (mrk j) → n.2[j]? = some c → (∀ v, Fz Γ.c R v d → Q v H) → r x (.ref a) H Q) (ha : DE X Γ a ta) (hb : DE X Γ b tb) (hm : behindInMarks op b = false) : DE X Γ (.Compare a [op] [b] pos) (e2R f ta tb) :=
  ⟨PE.wk (pe_cmpR ho ha.p hb.p hm) fun σ H Q ⟨R, ρ, n, r, n', rp, e, q⟩ => by
    obtain ⟨x, m, e1, e⟩ := Mb_some e
    obtain ⟨y, m2, e2, e⟩ := Mb_some e
    obtain ⟨c, m3, e5, e⟩ := Mb_some e
    obtain ⟨ee, rfl⟩ := Mo_some e
    refine ⟨R, ρ, n, x, m, rp, e1, fun v R1 H1 rp1 S1 z1 => ⟨R1, ρ, m, y, _, rp1, e2, fun u R2 H2 rp2 S2 z2 => ?_⟩⟩
    by_cases hx : ∃ j, y = .shr j
    · obtain ⟨j, rfl⟩ := hx
      obtain ⟨ec, rfl⟩ := gS_some e5
      obtain ⟨a, rfl, hm⟩ := z2.shr_inv
      exact hs R2 H2 _ σ ρ v x a j c r Q ee rp2 (z1.mono S2.le) hm ec fun w fw => q w R2 H2 rp2 (S1.trans S2) fw
    · have hc : c = y ∧ n' = m2 := by
        cases y <;> first | (cases e5; exact ⟨rfl, rfl⟩) | exact absurd ⟨_, rfl⟩ hx
      obtain ⟨rfl, rfl⟩ := hc
      exact hf R2 H2 v u x c r ee rp2.hp.same (z1.mono S2.le) z2 σ ρ _ Q rp2 fun w R3 H3 rp3 S3 z3 => q w R3 H3 rp3 ((S1.trans S2).trans S3) z3⟩
theorem dt_cmpR {op : CmpOp} {r : R2} {f : D → D → Option D} (ho : OpR X (compareOp op) r) (hf : Op2 Γ r f) (bf : Bf f) (hs : ∀ R H n σ ρ x dx a j c d (Q : VK), f dx c = some d → Rp Γ R H σ ρ n → Fz Γ.c R x dx → R a = some (mrk j) → n.2[j]? = some c → (∀ v, Fz Γ.c R v d → Q v H) → r x (.ref a) H Q) (ha : DE X Γ a ta) (hb : DE X Γ b tb) (hm : behindInMarks op b = false) : DT X Γ (.Compare a [op] [b] pos) (trB (e2R f ta tb)) :=
  ⟨PT.wk (pt_cmpR ho ha.p hb.p hm) fun σ H Q ⟨R, ρ, n, r, n', rp, e, q⟩ => by
    obtain ⟨d, m0, e0, e⟩ := Mb_some e
    obtain ⟨er, rfl⟩ := Mo_some e
    obtain ⟨x, m, e1, e⟩ := Mb_some e0
    obtain ⟨y, m2, e2, e⟩ := Mb_some e
    obtain ⟨c, m3, e5, e⟩ := Mb_some e
    obtain ⟨ee, rfl⟩ := Mo_some e
    obtain ⟨k, rfl⟩ := bf _ _ _ ee
    cases er
    refine ⟨R, ρ, n, x, m, rp, e1, fun v R1 H1 rp1 S1 z1 => ⟨R1, ρ, m, y, _, rp1, e2, fun u R2 H2 rp2 S2 z2 => ?_⟩⟩
    by_cases hx : ∃ j, y = .shr j
    · obtain ⟨j, rfl⟩ := hx
      obtain ⟨ec, rfl⟩ := gS_some e5
      obtain ⟨a, rfl, hm⟩ := z2.shr_inv
      exact hs R2 H2 _ σ ρ v x a j c _ _ ee rp2 (z1.mono S2.le) hm ec fun w fw => ⟨_, fw.bl_inv, q R2 H2 rp2 (S1.trans S2)⟩
    · have hc : c = y ∧ n' = m2 := by
        cases y <;> first | (cases e5; exact ⟨rfl, rfl⟩) | exact absurd ⟨_, rfl⟩ hx
      obtain ⟨rfl, rfl⟩ := hc
      exact hf R2 H2 v u x c _ ee rp2.hp.same (z1.mono S2.le) z2 σ ρ _ _ rp2 fun w R3 H3 rp3 S3 z3 => ⟨_, z3.bl_inv, q R3 H3 rp3 ((S1.trans S2).trans S3)⟩⟩
/-- k in a shared dict -/
def fInK : D → D → Option D
  | x, .dk ks vs => fInD x (.dk ks vs)
  | x, .tup ys => fInD x (.tup ys)
  | x, .str y => fInD x (.str y)
  | _, _ => none
def fNotInK : D → D → Option D
  | x, .dk ks vs => fNotInD x (.dk ks vs)
  | x, .tup ys => fNotInD x (.tup ys)
  | x, .str y => fNotInD x (.str y)
  | _, _ => none
theorem fInK_D {x y d : D} (h : fInK x y = some d) : fInD x y = some d := by cases y <;> first | exact h | cases h
theorem fNotInK_D {x y d : D} (h : fNotInK x y = some d) : fNotInD x y = some d := by cases y <;> first | exact h | cases h
theorem hs_inK (hK : X.K = Γ.c.K) : ∀ R H n σ ρ x dx a j c d (Q : VK), fInK dx c = some d → Rp Γ R H σ ρ n → Fz Γ.c R x dx → R a = some (mrk j) → n.2[j]? = some c → (∀ v, Fz Γ.c R v d → Q v H) → ((rIn X.K false x (.ref a) H Q ∨ ∃ i j, x = .str i ∧ V.ref a = .str j ∧ Q (.bl (!(Builtin.Str.occurrences j i 0 j.length 1).isEmpty)) H) ∨ rDIn false x (.ref a) H Q) := fun R H n σ ρ x dx a j c d Q e rp zx hm ec q => by
  obtain ⟨o, ho, fo⟩ := rp.hp.shr hm ec
  cases fo with
  | @dk kvs ds h2 h3 =>
    obtain ⟨b, e1, rfl⟩ := Option.map_eq_some_iff.mp e
    obtain ⟨k, ek, rfl⟩ := Option.map_eq_some_iff.mp (show (keyD dx).map (fun k => (dval (kvs.map Prod.fst) ds k).isSome) = some b from e1)
    exact .inr ⟨a, _, rfl, .inl ⟨kvs, k, .inl ho, zx.key ek, rfl⟩, by rw [dv_some h3]; simpa using q _ (.bl _)⟩
  | lst h2 h3 => cases e
theorem hs_notinK (hK : X.K = Γ.c.K) : ∀ R H n σ ρ x dx a j c d (Q : VK), fNotInK dx c = some d → Rp Γ R H σ ρ n → Fz Γ.c R x dx → R a = some (mrk j) → n.2[j]? = some c → (∀ v, Fz Γ.c R v d → Q v H) → ((rIn X.K true x (.ref a) H Q ∨ ∃ i j, x = .str i ∧ V.ref a = .str j ∧ Q (.bl (!!(Builtin.Str.occurrences j i 0 j.length 1).isEmpty)) H) ∨ rDIn true x (.ref a) H Q) := fun R H n σ ρ x dx a j c d Q e rp zx hm ec q => by
  obtain ⟨o, ho, fo⟩ := rp.hp.shr hm ec
  cases fo with
  | @dk kvs ds h2 h3 =>
    obtain ⟨b, e1, rfl⟩ := Option.map_eq_some_iff.mp e
    obtain ⟨k, ek, rfl⟩ := Option.map_eq_some_iff.mp (show (keyD dx).map (fun k => (dval (kvs.map Prod.fst) ds k).isSome) = some b from e1)
    exact .inr ⟨a, _, rfl, .inl ⟨kvs, k, .inl ho, zx.key ek, rfl⟩, by rw [dv_some h3]; simpa using q _ (.bl _)⟩
  | lst h2 h3 => cases e
theorem d_inS (hu : X.A.units + 64 < cLine) (ha : DE X Γ a ta) (hb : DE X Γ b tb) (hm : behindInMarks .In b = false := by rfl) (hK : X.K = Γ.c.K := by rfl) : DE X Γ (.Compare a [.In] [b] pos) (e2R fInK ta tb) := d_cmpR ((op_in_seq.or op_in_str).or (op_in_d (by omega))) (fun R H x y dx dy d e => o2InD hK R H x y dx dy d (fInK_D e)) (hs_inK hK) ha hb hm
theorem d_notinS (hu : X.A.units + 64 < cLine) (ha : DE X Γ a ta) (hb : DE X Γ b tb) (hm : behindInMarks .NotIn b = false := by rfl) (hK : X.K = Γ.c.K := by rfl) : DE X Γ (.Compare a [.NotIn] [b] pos) (e2R fNotInK ta tb) := d_cmpR ((op_notIn_seq.or op_notin_str).or (op_notin_d (by omega))) (fun R H x y dx dy d e => o2NotInD hK R H x y dx dy d (fNotInK_D e)) (hs_notinK hK) ha hb hm
theorem dt_inS (hu : X.A.units + 64 < cLine) (ha : DE X Γ a ta) (hb : DE X Γ b tb) (hm : behindInMarks .In b = false := by rfl) (hK : X.K = Γ.c.K := by rfl) : DT X Γ (.Compare a [.In] [b] pos) (trB (e2R fInK ta tb)) := dt_cmpR ((op_in_seq.or op_in_str).or (op_in_d (by omega))) (fun R H x y dx dy d e => o2InD hK R H x y dx dy d (fInK_D e)) (fun x y d h => bf_map (k := id) x y d (fInK_D h)) (hs_inK hK) ha hb hm
theorem dt_notinS (hu : X.A.units + 64 < cLine) (ha : DE X Γ a ta) (hb : DE X Γ b tb) (hm : behindInMarks .NotIn b = false := by rfl) (hK : X.K = Γ.c.K := by rfl) : DT X Γ (.Compare a [.NotIn] [b] pos) (trB (e2R fNotInK ta tb)) := dt_cmpR ((op_notIn_seq.or op_notin_str).or (op_notin_d (by omega))) (fun R H x y dx dy d e => o2NotInD hK R H x y dx dy d (fNotInK_D e)) (fun x y d h => bf_map x y d (fNotInK_D h)) (hs_notinK hK) ha hb hm
/-! x.append(e) -/
def fApp : D → D → Option D
  | .lst xs, d => if xs.length < sizeLine then some (.lst (xs ++ [d])) else none
  | _, _ => none
def isLs : D → Option (List D)
  | .lst xs => some xs
  | _ => none
def isSh : D → Option Nat
  | .shr j => some j
  | _ => none
theorem isSh_some {d : D} {j : Nat} (h : isSh d = some j) : d = .shr j := by cases d <;> first | (cases h; rfl) | cases h
def sAppS (to ta : Ed) : Bd := fun ρ => Mb (to ρ) fun l => Mb (Mo (isSh l)) fun j => Mb (gS j) fun c0 => Mb (Mo (isLs c0)) fun _ => Mb (ta ρ) fun d => Mb (gS j) fun c => Mb (Mo (fApp c d)) fun c' => Mb (pS j c') fun _ => Mp (.next ρ)
theorem ds_appS {to : Ed} (ho : DE X Γ o to) (ha : DE X Γ a ta) (hbase : attributeBase o "append" X.env (eval o X.env) = eval o X.env := by rfl) (hline : (apos.endLine == cpos.line) = true := by rfl) (hs : starEach [a] X.env = (false, eval a X.env) :: starEach [] X.env := by rfl)
    (hfew : ((backTo cpos (starEach [a] X.env)).all (fun x => !x.1) && (backToKw cpos (keywordEach [] X.env)).all (fun x => x.1.isSome) && decide ([a].length + ([] : List Keyword).length + (if ([] : List Keyword).isEmpty then 0 else 1) < 30)) = true := by rfl) (hpl : (backTo cpos (starEach [] X.env)).any (·.1) = false := by rfl)
    (hsw : swapsWith (.Call (.Attribute o "append" apos) [a] [] cpos) none pos.line X.env = pure false := by rfl) : DS X Γ (.Expr (.Call (.Attribute o "append" apos) [a] [] cpos) pos) (sAppS to ta) :=
  ⟨PS.wk (ps_expr (pe_bm PySem.F.plainAttrs_list PySem.F.slot_list_append PySem.F.type_list_append mt_append ho.p (pa_cons ha.p pa_nil hs) hbase hfew hline hs hpl) hsw) fun E σ H ⟨R, ρ, n, fl, n', rp, e, q⟩ => by
    obtain ⟨l, m1, e1, e⟩ := Mb_some e
    obtain ⟨j, m2, e2, e⟩ := Mb_some e
    obtain ⟨c0, m3, e3, e⟩ := Mb_some e
    obtain ⟨xs0, m4, e4, e⟩ := Mb_some e
    obtain ⟨d, m5, e5, e⟩ := Mb_some e
    obtain ⟨c, m6, e6, e⟩ := Mb_some e
    obtain ⟨c', m7, e7, e⟩ := Mb_some e
    obtain ⟨_, m8, e8, e⟩ := Mb_some e
    cases e
    obtain ⟨e2x, rfl⟩ := Mo_some e2
    obtain rfl := isSh_some e2x
    obtain ⟨e3x, rfl⟩ := gS_some e3
    obtain ⟨e4x, rfl⟩ := Mo_some e4
    obtain ⟨e6x, rfl⟩ := gS_some e6
    obtain ⟨e7x, rfl⟩ := Mo_some e7
    obtain ⟨flt, e8x⟩ := ite_some e8
    cases e8x
    refine ⟨R, ρ, n, _, _, rp, e1, fun v R0 H0 rp0 g0 z0 => ?_⟩
    obtain ⟨b, rfl, hm⟩ := z0.shr_inv
    obtain ⟨o0, ho0, fo0⟩ := rp0.hp.shr hm e3x
    cases fo0 with
    | dk _ _ => cases e4x
    | lst h2 h3 =>
      refine ⟨.inl ⟨rfl, _, SqL.of ho0⟩, R0, ρ, _, d, _, rp0, e5, fun v R1 H1 rp1 g1 z1 => ?_⟩
      have hm1 := g1.same _ _ hm
      obtain ⟨o1, ho1, fo1⟩ := rp1.hp.shr hm1 e6x
      cases fo1 with
      | dk _ _ => cases e7x
      | @lst us ds h4 h5 =>
        obtain ⟨hz, e7y⟩ := ite_some e7x
        cases e7y
        rw [← h5.len] at hz
        exact ⟨b, us, v, rfl, rfl, ho1, hz, q R1 _ σ (rp1.shrP hm1 (.lst (by rw [List.length_append]; exact hz) (h5.app (.cons z1 .nil))) flt) (g0.same.trans g1.same)⟩⟩
/-! x[k] = v -/
def fPut : D → D → D → Option D
  | .dk ks vs, y, d => if ks.length < sizeLine then (keyD y).map fun k => .dk (putD (ks, vs) k d).1 (putD (ks, vs) k d).2 else none
  | .lst xs, .int i, d => (ixN xs.length i).map fun j => .lst (xs.set j d)
  | _, _, _ => none
def sPutS (to tk tv : Ed) : Bd := fun ρ => Mb (tv ρ) fun d => Mb (to ρ) fun l => Mb (tk ρ) fun y => Mb (Mo (isSh l)) fun j => Mb (gS j) fun c => Mb (Mo (fPut c y d)) fun c' => Mb (pS j c') fun _ => Mp (.next ρ)
theorem PS.or {s : Stmt} {t t' : TS} (h : PS X s t) (h' : PS X s t') : PS X s fun D σ H => t D σ H ∨ t' D σ H := ⟨fun pins s σ H Q I q => by
  rcases q with q | q
  · exact h.run pins s σ H Q I q
  · exact h'.run pins s σ H Q I q⟩
theorem ds_putS {to : Ed} (hu : X.A.units + 64 < cLine) (ho : DE X Γ o to) (hk : DE X Γ kx tk) (hv : DE X Γ vx tv) (hs : swapsWith vx (some (.Subscript o kx pos')) pos.line X.env = pure false := by rfl)
    (P2 : PS X (.Assign [.Subscript o kx pos'] vx pos) (tAsg (up Γ tv) (gSub (up Γ to) (up Γ tk) rSetL))) : DS X Γ (.Assign [.Subscript o kx pos'] vx pos) (sPutS to tk tv) :=
  ⟨PS.wk (PS.or (ps_dput (by omega) ho.p hk.p hv.p hs) P2) fun E σ H ⟨R, ρ, n, fl, n', rp, e, q⟩ => by
    obtain ⟨d, m1, e1, e⟩ := Mb_some e
    obtain ⟨l, m2, e2, e⟩ := Mb_some e
    obtain ⟨y, m3, e3, e⟩ := Mb_some e
    obtain ⟨j, m4, e4, e⟩ := Mb_some e
    obtain ⟨c, m5, e5, e⟩ := Mb_some e
    obtain ⟨c', m6, e6, e⟩ := Mb_some e
    obtain ⟨_, m7, e7, e⟩ := Mb_some e
    cases e
    obtain ⟨e4x, rfl⟩ := Mo_some e4
    obtain rfl := isSh_some e4x
    obtain ⟨e5x, rfl⟩ := gS_some e5
    obtain ⟨e6x, rfl⟩ := Mo_some e6
    obtain ⟨flt, e7x⟩ := ite_some e7
    cases e7x
    by_cases hd : ∃ ks vs, c = .dk ks vs
    · obtain ⟨ks, vs, rfl⟩ := hd
      refine .inl ⟨R, ρ, n, d, _, rp, e1, fun v R1 H1 rp1 g1 z1 => ⟨R1, ρ, _, _, _, rp1, e2, fun w R2 H2 rp2 g2 z2 => ⟨R2, ρ, _, y, _, rp2, e3, fun u R3 H3 rp3 g3 z3 => ?_⟩⟩⟩
      obtain ⟨b, rfl, hm⟩ := (z2.mono g3.le).shr_inv
      obtain ⟨o1, ho1, fo1⟩ := rp3.hp.shr hm e5x
      cases fo1 with
      | @dk kvs ds h4 h5 =>
        obtain ⟨hz, e6y⟩ := ite_some e6x
        obtain ⟨k, ek, rfl⟩ := Option.map_eq_some_iff.mp e6y
        obtain ⟨p1, p2, p3⟩ := put_fz (k := k) h5 ((z1.mono g2.le).mono g3.le)
        rw [List.length_map] at hz
        rw [← p1] at flt
        refine ⟨b, _, rfl, .inl ⟨kvs, k, ho1, z3.key ek, hz, rfl⟩, q R3 _ σ ?_ ((g1.same.trans g2.same).trans g3.same)⟩
        rw [← p1]
        exact rp3.shrP hm (.dk (by omega) p2) flt
    · refine .inr ⟨R, ρ, n, d, _, rp, e1, fun v R1 H1 rp1 g1 z1 => ⟨R1, ρ, _, _, _, rp1, e2, fun w R2 H2 rp2 g2 z2 => ⟨R2, ρ, _, y, _, rp2, e3, fun u R3 H3 rp3 g3 z3 => ?_⟩⟩⟩
      obtain ⟨b, rfl, hm⟩ := (z2.mono g3.le).shr_inv
      obtain ⟨o1, ho1, fo1⟩ := rp3.hp.shr hm e5x
      cases fo1 with
      | dk _ _ => exact absurd ⟨_, _, rfl⟩ hd
      | @lst us ds h4 h5 => cases y with
        | int i =>
          obtain ⟨k, ek, rfl⟩ := Option.map_eq_some_iff.mp e6x
          cases z3
          refine ⟨b, us, i, k, rfl, rfl, ho1, by rw [h5.len]; exact ek, q R3 _ σ ?_ ((g1.same.trans g2.same).trans g3.same)⟩
          exact rp3.shrP hm (.lst (by rw [List.length_set]; exact h4) (h5.set k ((z1.mono g2.le).mono g3.le))) flt
        | _ => cases e6x⟩
/-! d.setdefault(k, x) -/
def isDk : D → Option Unit
  | .dk _ _ => some ()
  | _ => none
def sdM (j : Nat) (y z : D) : D → M D
  | .dk ks vs => if ks.length < sizeLine then Mb (Mo (keyD y)) fun k => match dval ks vs k with
    | some v => Mp v
    | none => Mb (pS j (.dk (putD (ks, vs) k z).1 (putD (ks, vs) k z).2)) fun _ => Mp z
    else Mo none
  | _ => Mo none
def eSd (ta tb tc : Ed) : Ed := fun ρ => Mb (ta ρ) fun x => Mb (Mo (isSh x)) fun j => Mb (gS j) fun c0 => Mb (Mo (isDk c0)) fun _ => Mb (tb ρ) fun y => Mb (tc ρ) fun z => Mb (gS j) fun c => sdM j y z c
theorem d_setd (ha : DE X Γ a ta) (hb : DE X Γ e tb) (hc : DE X Γ f tc) (m : M2 X a "setdefault" apos e f cpos := by exact ⟨rfl, rfl, rfl, rfl⟩) : DE X Γ (.Call (.Attribute a "setdefault" apos) [e, f] [] cpos) (eSd ta tb tc) :=
  ⟨PE.wk (pe_dsetd ha.p hb.p hc.p m) fun σ H Q ⟨R, ρ, n, r, n', rp, e, q⟩ => by
    obtain ⟨x, m1, e1, e⟩ := Mb_some e
    obtain ⟨j, m2, e2, e⟩ := Mb_some e
    obtain ⟨c0, m3, e3, e⟩ := Mb_some e
    obtain ⟨_, m4, e4, e⟩ := Mb_some e
    obtain ⟨y, m5, e5, e⟩ := Mb_some e
    obtain ⟨z, m6, e6, e⟩ := Mb_some e
    obtain ⟨c, m7, e7, e⟩ := Mb_some e
    obtain ⟨e2x, rfl⟩ := Mo_some e2
    obtain rfl := isSh_some e2x
    obtain ⟨e3x, rfl⟩ := gS_some e3
    obtain ⟨e4x, rfl⟩ := Mo_some e4
    obtain ⟨e7x, rfl⟩ := gS_some e7
    refine ⟨R, ρ, n, _, _, rp, e1, fun v R1 H1 rp1 g1 z1 => ?_⟩
    obtain ⟨b, rfl, hm⟩ := z1.shr_inv
    obtain ⟨o0, ho0, fo0⟩ := rp1.hp.shr hm e3x
    cases fo0 with
    | lst _ _ => cases e4x
    | dk h2 h3 =>
      refine ⟨b, rfl, .inl ⟨_, .inl ho0⟩, R1, ρ, _, y, _, rp1, e5, fun u R2 H2 rp2 g2 z2 => ⟨R2, ρ, _, z, _, rp2, e6, fun w R3 H3 rp3 g3 z3 => ?_⟩⟩
      have hm3 := g3.same _ _ (g2.same _ _ hm)
      obtain ⟨o1, ho1, fo1⟩ := rp3.hp.shr hm3 e7x
      cases fo1 with
      | lst _ _ => cases e
      | @dk kvs ds h4 h5 =>
        by_cases hz : (kvs.map Prod.fst).length < sizeLine
        · have e' : Mb (Mo (keyD y)) (fun k => match dval (kvs.map Prod.fst) ds k with
            | some v => Mp v
            | none => Mb (pS j (.dk (putD (kvs.map Prod.fst, ds) k z).1 (putD (kvs.map Prod.fst, ds) k z).2)) fun _ => Mp z) m7 = some (r, n') := by
            rw [← e]; show _ = (if (kvs.map Prod.fst).length < sizeLine then _ else Mo none) m7
            rw [if_pos hz]
          obtain ⟨k, m8, e8, e9⟩ := Mb_some e'
          obtain ⟨ek, rfl⟩ := Mo_some e8
          rw [List.length_map] at hz
          have hdv := h5.dv (k := k)
          refine ⟨kvs, k, ho1, (z2.mono g3.le).key ek, hz, fun v hv => ?_, fun hv => ?_⟩
          · cases q1 : dval (kvs.map Prod.fst) ds k with
            | none => rw [q1] at hdv; rw [hv] at hdv; cases hdv
            | some d =>
              rw [q1] at hdv e9
              obtain ⟨v', hv', fv⟩ := hdv
              rw [hv] at hv'; cases hv'
              cases e9
              exact q v R3 H3 rp3 ((g1.trans g2).trans g3) fv
          · cases q1 : dval (kvs.map Prod.fst) ds k with
            | some d =>
              rw [q1] at hdv
              obtain ⟨v', hv', fv⟩ := hdv
              rw [hv] at hv'; cases hv'
            | none =>
              rw [q1] at e9
              obtain ⟨_, m9, e10, e11⟩ := Mb_some (show Mb (pS j (.dk (putD (kvs.map Prod.fst, ds) k z).1 (putD (kvs.map Prod.fst, ds) k z).2)) (fun _ => Mp z) _ = some (r, n') from e9)
              cases e11
              obtain ⟨flt, e10x⟩ := ite_some e10
              cases e10x
              obtain ⟨p1, p2, p3⟩ := put_fz (k := k) h5 z3
              rw [← p1] at flt
              refine q w R3 _ ?_ (((g1.trans g2).trans g3).put hm3 (by rw [ho1]; exact fun z => nomatch z)) z3
              rw [← p1]
              exact rp3.shrP hm3 (.dk (by omega) p2) flt
        · have e' : (none : Option (D × Sx)) = some (r, n') := by
            rw [← e]; show _ = (if (kvs.map Prod.fst).length < sizeLine then _ else Mo none) m7
            rw [if_neg hz]; rfl
          cases e'⟩
/-! tuple(d.items()) -/
def pairD : List Key → List D → List D
  | k :: ks, d :: ds => .tup [dOf k, d] :: pairD ks ds
  | _, _ => []
def fItT : D → Option D
  | .dk ks vs => if keysOk ks = true then some (.tup (pairD ks vs)) else none
  | _ => none
def eItT (ta : Ed) : Ed := fun ρ => Mb (ta ρ) fun x => Mb (Mo (isSh x)) fun j => Mb (gS j) fun c => Mo (fItT c)
theorem fz_items {c : Cn} {R : Hp} : ∀ {ts : List Addr} {kvs : List (Key × V)} {ds : List D}, Paired (fun (t : Addr) (q : Key × V) => R t = some (.tup [kV q.1, q.2])) ts kvs → FzA c R (kvs.map fun kv => kV kv.1) ((kvs.map Prod.fst).map dOf) → FzA c R (kvs.map Prod.snd) ds → FzA c R (ts.map V.ref) (pairD (kvs.map Prod.fst) ds)
  | _, [], _, h, _, .nil => by cases h; exact .nil
  | _, p :: kvs, _, h, .cons a b, .cons a' b' => by
    cases h with
    | cons h1 h2 => exact .cons (.tup (SqT.of h1) (by show 2 ≤ sizeLine; decide) (.cons a (.cons a' .nil))) (fz_items h2 b b')
theorem d_itT (hg : Gl X "tuple") (hm : X.mg "tuple" = none) (ha : DE X Γ a ta) (hc : X.calm = true := by rfl) (hbase : attributeBase a "items" X.env (eval a X.env) = eval a X.env := by rfl) (hline : (apos.endLine == cpos.line) = true := by rfl)
    (hs : starEach [.Call (.Attribute a "items" apos) [] [] cpos] X.env = (false, eval (.Call (.Attribute a "items" apos) [] [] cpos) X.env) :: starEach [] X.env := by rfl) :
    DE X Γ (.Call (.Name "tuple" p) [.Call (.Attribute a "items" apos) [] [] cpos] [] pos) (eItT ta) :=
  ⟨PE.wk (pe_tupItems hc ha.p hg hm hbase hline hs) fun σ H Q ⟨R, ρ, n, r, n', rp, e, q⟩ => by
    obtain ⟨x, m1, e1, w1⟩ := Mb_some e
    obtain ⟨j, m2, e2, w2⟩ := Mb_some w1
    obtain ⟨c, m3, e3, w3⟩ := Mb_some w2
    obtain ⟨e2x, rfl⟩ := Mo_some e2
    obtain rfl := isSh_some e2x
    obtain ⟨e3x, rfl⟩ := gS_some e3
    obtain ⟨ee, rfl⟩ := Mo_some w3
    refine ⟨R, ρ, n, _, _, rp, e1, fun v R1 H1 rp1 g1 z1 => ?_⟩
    obtain ⟨b, rfl, hm⟩ := z1.shr_inv
    obtain ⟨o0, ho0, fo0⟩ := rp1.hp.shr hm e3x
    cases fo0 with
    | lst _ _ => cases ee
    | @dk kvs ds h2 h3 =>
      obtain ⟨hk, ey⟩ := ite_some ee
      cases ey
      refine ⟨b, kvs, rfl, ho0, fun H3 l ts S3 hl0 hts0 hl3 hpp => ?_⟩
      obtain ⟨k, g⟩ := rp1.hp.grow S3 (l :: ts) (fun a ha => (List.mem_cons.mp ha).elim (fun z => z ▸ hl0) (hts0 a)) fun a ha j e => by
        rcases List.mem_cons.mp ha with rfl | ha
        · rw [hl3] at e; cases e
        · obtain ⟨b, hb⟩ := paired_ex hpp a ha
          rw [show H3 a = some (.tup [kV b.1, b.2]) from hb] at e; cases e
      have hl4 : (fun a => if a ∈ l :: ts then H3 a else R1 a) l = some (.tup (ts.map V.ref)) := by
        show (if l ∈ l :: ts then H3 l else R1 l) = _
        rw [if_pos (by simp)]; exact hl3
      have lt : (ts.map V.ref).length ≤ sizeLine := by
        rw [List.length_map, Paired.length hpp]; exact h2
      refine q _ _ H3 (rp1.along g k) (g1.trans g) (.tup (SqT.of hl4) lt (fz_items ?_ (by rw [kv_map]; exact keys_fz hk) (h3.mono g.le)))
      refine paired_mem hpp fun t ht pr hp => ?_
      show (if t ∈ l :: ts then H3 t else R1 t) = _
      rw [if_pos (List.mem_cons_of_mem _ ht)]; exact hp⟩
end
end Sh

set_option Elab.async false
set_option linter.all false
set_option maxRecDepth 100000
/-! owned lists written at an index -/
namespace Sh
open PySem L2 Nf
section
variable {X : Cx} {Γ : Gm} {a b e f o kx vx : Expr} {ta tb tc tk tv : Ed} {pos pos' apos cpos p : Pos}
def sPutL (i : Nat) (tk tv : Ed) : Bd := fun ρ => Mb (tv ρ) fun d => Mb (eVar i ρ) fun l => Mb (Mo (isLs l)) fun xs => Mb (tk ρ) fun y => Mb (Mo (fPut (.lst xs) y d)) fun c => Mp (.next (ρ.set i (some c)))
theorem ds_putL {i : Nat} (ho : PE X o (tVar i)) (hk : DE X Γ kx tk) (hv : DE X Γ vx tv) (hio' : Γ.ow.contains i = true := by rfl)
    (ha : ∀ v, assign (.Subscript o kx pos') X.env v = (do
      let ov ← holding [v] (eval o X.env)
      let iv ← holding [v, ov] (eval kx X.env)
      standAt pos'
      holding [v, ov, iv] (setItem ov iv v)
      release [v, ov, iv] []) := by intro _; rfl)
    (hs : swapsWithSole [.Subscript o kx pos'] vx pos.line X.env = pure false := by rfl) (hw : swappedStores [.Subscript o kx pos'] vx X.env = pure none := by rfl)
    (h1 : (assignEach [.Subscript o kx pos'] X.env).map (·.2) = [assign (.Subscript o kx pos') X.env] := by rfl) :
    DS X Γ (.Assign [.Subscript o kx pos'] vx pos) (sPutL i tk tv) :=
  have hio := mem_of hio'
  ⟨PS.wk (ps_asg hv.p (pg_sub ho hk.p set_list ha) hs hw h1) fun E σ H ⟨R, ρ, n, fl, n', rp, e, q⟩ => by
    obtain ⟨d, m1, e1, w1⟩ := Mb_some e
    obtain ⟨l, m2, e2, w2⟩ := Mb_some w1
    obtain ⟨xs, m3, e3, w3⟩ := Mb_some w2
    obtain ⟨y, m4, e4, w4⟩ := Mb_some w3
    obtain ⟨c, m5, e5, w5⟩ := Mb_some w4
    cases w5
    obtain ⟨e2', rfl⟩ := eVar_some e2
    obtain ⟨e3', rfl⟩ := Mo_some e3
    obtain ⟨e5', rfl⟩ := Mo_some e5
    cases l with
    | lst zs =>
      cases e3'
      cases y with
      | int k =>
        obtain ⟨j, ek, rfl⟩ := Option.map_eq_some_iff.mp e5'
        refine ⟨R, ρ, n, d, _, rp, e1, fun v R1 H1 rp1 g1 z1 => ?_⟩
        obtain ⟨la, us, h1, h2, h3, h4, h5, f, hd⟩ := rp1.ownL hio e2'
        refine ⟨_, h1, R1, ρ, _, _, _, rp1, e4, fun u R2 H2 rp2 g2 z2 => ?_⟩
        obtain ⟨h2', h3'⟩ := g2.stay h2 hd h3
        cases z2
        exact ⟨la, us, k, j, rfl, rfl, h2', by rw [f.len]; exact ek, q R2 _ σ (rp2.mut hio e2' h1 (.lst (by rw [List.length_set]; exact h5) ((f.mono g2.le).set j (z1.mono g2.le)))) (g1.same.trans g2.same)⟩
      | _ => cases e5'
    | _ => cases e3'⟩
theorem ds_putS' {to : Ed} (hu : X.A.units + 64 < cLine) (ho : DE X Γ o to) (hk : DE X Γ kx tk) (hv : DE X Γ vx tv) (hs0 : swapsWith vx (some (.Subscript o kx pos')) pos.line X.env = pure false := by rfl)
    (ha : ∀ v, assign (.Subscript o kx pos') X.env v = (do
      let ov ← holding [v] (eval o X.env)
      let iv ← holding [v, ov] (eval kx X.env)
      standAt pos'
      holding [v, ov, iv] (setItem ov iv v)
      release [v, ov, iv] []) := by intro _; rfl)
    (hs : swapsWithSole [.Subscript o kx pos'] vx pos.line X.env = pure false := by rfl) (hw : swappedStores [.Subscript o kx pos'] vx X.env = pure none := by rfl)
    (h1 : (assignEach [.Subscript o kx pos'] X.env).map (·.2) = [assign (.Subscript o kx pos') X.env] := by rfl) :
    DS X Γ (.Assign [.Subscript o kx pos'] vx pos) (sPutS to tk tv) := ds_putS hu ho hk hv hs0 (ps_asg hv.p (pg_sub ho.p hk.p set_list ha) hs hw h1)
end
/-! reckoning with shared objects -/
section
variable {ρ ρ' : Sd} {n m m' m1 m2 m3 : Sx} {i j : Nat} {d x y z c c' : D} {a b t : Ed} {xs ys : List D}
theorem shC_shr (h : m.2[j]? = some c) : shC (.shr j) m = some (c, m) := by show gS j m = _; unfold gS; rw [h]; rfl
theorem eShr_e (h : a ρ n = some (d, m)) (k : d.flatO = true) : eShr a ρ n = some (.shr m.2.length, (m.1, m.2 ++ [d])) := by
  unfold eShr Mb; rw [h]; exact if_pos k
theorem e1S_e {f : D → Option D} (h : a ρ n = some (x, m)) (k : shC x m = some (c, m')) (l : f c = some z) : e1S f a ρ n = some (z, m') := by
  unfold e1S Mb; rw [h]; simp only [k, Mo, l, Option.map_some]
theorem e2S_e {f : D → D → Option D} (h : a ρ n = some (x, m)) (h2 : b ρ m = some (y, m1)) (k : shC x m1 = some (c, m2)) (l : f c y = some z) : e2S f a b ρ n = some (z, m2) := by
  unfold e2S Mb; rw [h]; simp only [h2, k, Mo, l, Option.map_some]
theorem e2R_e {f : D → D → Option D} (h : a ρ n = some (x, m)) (h2 : b ρ m = some (y, m1)) (k : shC y m1 = some (c, m2)) (l : f x c = some z) : e2R f a b ρ n = some (z, m2) := by
  unfold e2R Mb; rw [h]; simp only [h2, k, Mo, l, Option.map_some]
theorem sAppS_n (h : a ρ n = some (.shr j, m)) (h0 : m.2[j]? = some (.lst ys)) (h2 : b ρ m = some (d, m1)) (h3 : m1.2[j]? = some (.lst xs)) (hz : xs.length < 1000000) (hf : D.flatA (xs ++ [d]) = true) :
    sAppS a b ρ n = some (.next ρ, (m1.1, m1.2.set j (.lst (xs ++ [d])))) := by
  unfold sAppS Mb
  rw [h]
  have q : fApp (.lst xs) d = some (.lst (xs ++ [d])) := if_pos (by rw [PySem.sizeLine_eq]; omega)
  simp only [isSh, Mo, Option.map_some, gS, h0, isLs, h2, h3, q, pS]
  rw [if_pos (show D.flatO (.lst (xs ++ [d])) = true from hf)]
  rfl
theorem sPutS_n (h : b ρ n = some (d, m)) (h2 : a ρ m = some (.shr j, m1)) (h3 : t ρ m1 = some (y, m2)) (h4 : m2.2[j]? = some c) (h5 : fPut c y d = some c') (hf : c'.flatO = true) : sPutS a t b ρ n = some (.next ρ, (m2.1, m2.2.set j c')) := by
  unfold sPutS Mb
  rw [h]
  simp only [h2, h3, isSh, Mo, Option.map_some, gS, h4, h5, pS]
  rw [if_pos hf]
  rfl
theorem sPutL_n {k : Int} (h : b ρ n = some (d, m)) (h2 : ρ[i]? = some (some (.lst xs))) (h3 : a ρ m = some (.int k, m1)) (h4 : L2.ixN xs.length k = some j) : sPutL i a b ρ n = some (.next (ρ.set i (some (.lst (xs.set j d)))), m1) := by
  have q : fPut (.lst xs) (.int k) d = some (.lst (xs.set j d)) := by show (L2.ixN xs.length k).map _ = _; rw [h4]; rfl
  unfold sPutL Mb
  rw [h]
  simp only [eVar_e h2, isLs, Mo, Option.map_some, h3, q]
  rfl
theorem put_dk {ks : List Key} {vs : List D} {k : Key} (h : ks.length < 1000000) (e : keyD y = some k) : fPut (.dk ks vs) y d = some (.dk (putD (ks, vs) k d).1 (putD (ks, vs) k d).2) := by
  show (if ks.length < sizeLine then _ else _) = _
  rw [if_pos (by rw [PySem.sizeLine_eq]; omega), e]
  rfl
end
end Sh

set_option Elab.async false
set_option linter.all false
set_option maxRecDepth 100000
set_option maxHeartbeats 1000000
/-! zip of a tuple and a list: one turn by any two sources -/
namespace Nf
open PySem PySem.Spec PyProof.Rows L2
/-- what stands at `it` draws the items of xs, one a call -/
structure Nx (prog : Program) (w : World) (it l : Addr) (xs : Array Value) (St : Heap → Nat → Prop) : Prop where
  item : ∀ (A : Around) (E : Value → Shared → Prop) (s : Shared) (k : Nat) (x : Value) (Q : Value → Shared → Prop), St s.heap k → xs[k]? = some x → (∀ g, St g (k + 1) → Heap.SameBut it s.heap g → Q x { s with heap := g }) →
    wpAny (model prog w) A (Builtin.SmallTypes.nextOf (.ref it)) Q E s
  fin : ∀ (A : Around) (E : Value → Shared → Prop) (s : Shared) (k : Nat) (Q : Value → Shared → Prop), A.handled = none → St s.heap k → xs[k]? = none → (∀ g e, Heap.ExtBut it s.heap g → (∃ o, g.get? e = some o ∧ o.cls = .type "StopIteration") → E (.ref e) { s with heap := g }) →
    wpAny (model prog w) A (Builtin.SmallTypes.nextOf (.ref it)) Q E s
  along : ∀ (h g : Heap) (k : Nat), St h k → (∀ o, h.get? it = some o → g.get? it = some o) → (∀ o, h.get? l = some o → g.get? l = some o) → St g k
  lt : ∀ (h : Heap) (k : Nat), St h k → it < h.objs.size
theorem nx_tup {prog : Program} {w : World} {it l : Addr} {xs : Array Value} (ne : l ≠ it) : Nx prog w it l xs fun h k => h.IsTupleIter it l k ∧ h.IsTuple l xs where
  item := fun A E s k x Q st hx hq => RZ.nextOf_tuple_item st.1 st.2 hx fun g a b => hq g ⟨a, st.2.at fun o e => b.extBut _ _ ne e⟩ b
  fin := fun A E s k Q hh st hx hq => RZ.nextOf_tuple_end hh st.1 st.2 hx hq
  along := fun h g k st h1 h2 => ⟨st.1.at h1, st.2.at h2⟩
  lt := fun h k st => let ⟨_, e, _⟩ := st.1; Heap.lt_size e
theorem nx_lst {prog : Program} {w : World} {it l : Addr} {xs : Array Value} (ne : l ≠ it) : Nx prog w it l xs fun h k => h.IsListIter it l k ∧ h.IsList l xs where
  item := fun A E s k x Q st hx hq => wpAny_nextOf_list_item st.1 st.2 hx fun g a b => hq g ⟨a, st.2.at fun o e => b.extBut _ _ ne e⟩ b
  fin := fun A E s k Q hh st hx hq => wpAny_nextOf_list_end hh st.1 st.2 hx hq
  along := fun h g k st h1 h2 => ⟨st.1.at h1, st.2.at h2⟩
  lt := fun h k st => let ⟨_, e, _⟩ := st.1; Heap.lt_size e
section
variable {prog : Program} {w : World} {A : Around} {E : Value → Shared → Prop} {s : Shared} {z TI TO i1 i2 l1 l2 : Addr} {S1 S2 : Heap → Nat → Prop} {xs ys : Array Value} {x y a b : Value} {k : Nat}
theorem zipN_item {Q : Option Value → Shared → Prop} (D : ZipApart z TI TO i1 i2 l1 l2) (N1 : Nx prog w i1 l1 xs S1) (N2 : Nx prog w i2 l2 ys S2)
    (hz : IsZip s.heap z TI TO .none) (hTI : IsPair s.heap TI (.ref i1) (.ref i2)) (hTO : IsPair s.heap TO a b) (h1 : S1 s.heap k) (h2 : S2 s.heap k) (hx : xs[k]? = some x) (hy : ys[k]? = some y)
    (hQ : ∀ g, IsZip g z TI TO (rawInt s.heap.objs.size) → IsPair g TO x y → S1 g (k + 1) → S2 g (k + 1) → IsPair g s.heap.objs.size x y → g.objs.size = s.heap.objs.size + 1 →
      (∀ c o, c ≠ z → c ≠ TO → c ≠ i1 → c ≠ i2 → s.heap.get? c = some o → g.get? c = some o) → Q (some (.ref s.heap.objs.size)) { s with heap := g }) :
    wpAny (model prog w) A (pyNext (.ref z)) Q E s := by
  have ty : s.TypeIs (.ref z) "zip" := ⟨_, hz, rfl⟩
  unfold pyNext
  refine wpAny_bind (wpAny_attempt (wpAny_callSpecial?_slot (name := Str.ofString "__next__") ty F.slot_zip_next (wpAny_call_entry F.slot_zip_next ty F.entry_zip_next ?_ (F.args_zip_next_1 _))))
  show wpAny _ _ (field (.ref z) 2 >>= _) _ _ _
  refine wpAny_bind (wpAny_field hz rfl (x := .bool false) rfl ?_)
  show wpAny _ _ (field (.ref z) 3 >>= _) _ _ _
  refine wpAny_bind (wpAny_field hz rfl (x := .ref TI) rfl (wpAny_bind (wpAny_seqItems hTI rfl ?_)))
  show wpAny _ _ (Builtin.SmallTypes.ownedTupleIsFree (.ref z) >>= _) _ _ _
  refine wpAny_bind ?_
  unfold Builtin.SmallTypes.ownedTupleIsFree
  refine wpAny_bind (wpAny_field hz rfl (x := .none) rfl (wpAny_pure ?_))
  simp only [if_true]
  refine wpAny_bind (wpAny_rule (wpAny_bind (wpAny_field hz rfl (x := .ref TO) rfl ?_)))
  refine wpAny_bind (wpAny_setField_rec hz (by simp) fun g1 z1 s1 => ?_)
  replace z1 : IsZip g1 z TI TO .ellipsis := z1
  refine wpAny_bind ?_
  simp only [List.zipIdx_cons, List.zipIdx_nil, List.forIn_cons, List.forIn_nil]
  refine wpAny_bind (wpAny_bind (wpAny_onRaise ?_))
  show wpAny _ _ (Builtin.SmallTypes.nextOf (.ref i1) >>= _) _ _ _
  refine wpAny_bind (N1.item _ _ _ k x _ (N1.along _ _ _ h1 (fun o e => s1.extBut _ _ D.i1z e) fun o e => s1.extBut _ _ D.l1z e) hx fun g2 a2 s2 => wpAny_pure ?_)
  have o2 : IsPair g2 TO a b := s2.extBut _ _ D.TOi1 (s1.extBut _ _ D.TOz hTO)
  refine wpAny_bind (wpAny_seqItems o2 rfl (wpAny_bind (wpAny_updateSeq_pair o2 fun g3 o3 s3 => ?_)))
  replace o3 : IsPair g3 TO x b := o3
  refine wpAny_bind (wpAny_letGo (wpAny_pure (wpAny_bind (wpAny_bind (wpAny_onRaise ?_)))))
  show wpAny _ _ (Builtin.SmallTypes.nextOf (.ref i2) >>= _) _ _ _
  have b3 : S2 g3 k := N2.along _ _ _ h2 (fun o e => s3.extBut _ _ D.TOi2.symm (s2.extBut _ _ D.i12.symm (s1.extBut _ _ D.i2z e))) fun o e => s3.extBut _ _ D.l2TO (s2.extBut _ _ D.l2i1 (s1.extBut _ _ D.l2z e))
  refine wpAny_bind (N2.item _ _ _ k y _ b3 hy fun g4 b4 s4 => wpAny_pure ?_)
  have o4 : IsPair g4 TO x b := s4.extBut _ _ D.TOi2 o3
  refine wpAny_bind (wpAny_seqItems o4 rfl (wpAny_bind (wpAny_updateSeq_pair o4 fun g5 o5 s5 => ?_)))
  replace o5 : IsPair g5 TO x y := o5
  refine wpAny_bind (wpAny_letGo (wpAny_pure (wpAny_pure (wpAny_bind (wpAny_seqItems o5 rfl (wpAny_bind (wpAny_newTuple ?_)))))))
  have sz : g5.objs.size = s.heap.objs.size := by rw [s5.1, s4.1, s3.1, s2.1, s1.1]
  have z5 : IsZip g5 z TI TO .ellipsis := s5.extBut _ _ D.TOz.symm (s4.extBut _ _ D.i2z.symm (s3.extBut _ _ D.TOz.symm (s2.extBut _ _ D.i1z.symm z1)))
  have k5 : ∀ c o, c ≠ z → c ≠ TO → c ≠ i1 → c ≠ i2 → s.heap.get? c = some o → g5.get? c = some o := fun c o c1 c2 c3 c4 e =>
    s5.extBut _ _ c2 (s4.extBut _ _ c4 (s3.extBut _ _ c2 (s2.extBut _ _ c3 (s1.extBut _ _ c1 e))))
  have a5 : S1 g5 (k + 1) := N1.along _ _ _ a2 (fun o e => s5.extBut _ _ D.TOi1.symm (s4.extBut _ _ D.i12 (s3.extBut _ _ D.TOi1.symm e))) fun o e => s5.extBut _ _ D.l1TO (s4.extBut _ _ D.l1i2 (s3.extBut _ _ D.l1TO e))
  have b5 : S2 g5 (k + 1) := N2.along _ _ _ b4 (fun o e => s5.extBut _ _ D.TOi2.symm e) fun o e => s5.extBut _ _ D.l2TO e
  have zl : z < g5.objs.size := Heap.lt_size z5
  have tl : TO < g5.objs.size := Heap.lt_size o5
  show wpAny _ _ (Builtin.SmallTypes.ownedTupleHandOut (.ref z) (.ref g5.objs.size) >>= _) _ _ _
  refine wpAny_bind ?_
  unfold Builtin.SmallTypes.ownedTupleHandOut
  have z6 : IsZip (g5.push { cls := .type "tuple", data := .seq #[x, y] }) z TI TO .ellipsis := Heap.get?_push_of_some _ z5
  refine wpAny_bind (wpAny_setField_rec z6 (by simp) fun g7 z7 s7 => ?_)
  replace z7 : IsZip g7 z TI TO (rawInt g5.objs.size) := z7
  refine wpAny_setField_rec z7 (by simp) fun g8 z8 s8 => ?_
  replace z8 : IsZip g8 z TI TO (rawInt g5.objs.size) := z8
  have up : ∀ c o, c ≠ z → g5.get? c = some o → g8.get? c = some o := fun c o c1 e => s8.extBut _ _ c1 (s7.extBut _ _ c1 (Heap.get?_push_of_some _ e))
  have t8 : IsPair g8 g5.objs.size x y := s8.extBut _ _ (Nat.ne_of_gt zl) (s7.extBut _ _ (Nat.ne_of_gt zl) (Heap.get?_push_size _ rfl))
  have sz8 : g8.objs.size = g5.objs.size + 1 := by rw [s8.1, s7.1, Heap.size_push]
  rw [sz] at z8 t8 sz8
  refine wpAny_pure ⟨_, rfl, ?_⟩
  refine wpAny_pure ?_
  show Q (some (.ref g5.objs.size)) _
  rw [sz]
  exact hQ g8 z8 (up _ _ D.TOz o5) (N1.along _ _ _ a5 (fun o e => up _ o D.i1z e) fun o e => up _ o D.l1z e) (N2.along _ _ _ b5 (fun o e => up _ o D.i2z e) fun o e => up _ o D.l2z e) t8 sz8 fun c o c1 c2 c3 c4 e => up c o c1 (k5 c o c1 c2 c3 c4 e)
theorem zipN_end {Q : Option Value → Shared → Prop} (hh : A.handled = none) (D : ZipApart z TI TO i1 i2 l1 l2) (N1 : Nx prog w i1 l1 xs S1) (N2 : Nx prog w i2 l2 ys S2)
    (hz : IsZip s.heap z TI TO .none) (hTI : IsPair s.heap TI (.ref i1) (.ref i2)) (hTO : IsPair s.heap TO a b) (h1 : S1 s.heap k) (h2 : S2 s.heap k) (hend : xs[k]? = none ∨ ys[k]? = none)
    (hQ : ∀ g, (∀ c o, c ≠ z → c ≠ TO → c ≠ i1 → c ≠ i2 → s.heap.get? c = some o → g.get? c = some o) → Q none { s with heap := g }) : wpAny (model prog w) A (pyNext (.ref z)) Q E s := by
  have ty : s.TypeIs (.ref z) "zip" := ⟨_, hz, rfl⟩
  unfold pyNext
  refine wpAny_bind (wpAny_attempt (wpAny_callSpecial?_slot (name := Str.ofString "__next__") ty F.slot_zip_next (wpAny_call_entry F.slot_zip_next ty F.entry_zip_next ?_ (F.args_zip_next_1 _))))
  show wpAny _ _ (field (.ref z) 2 >>= _) _ _ _
  refine wpAny_bind (wpAny_field hz rfl (x := .bool false) rfl ?_)
  show wpAny _ _ (field (.ref z) 3 >>= _) _ _ _
  refine wpAny_bind (wpAny_field hz rfl (x := .ref TI) rfl (wpAny_bind (wpAny_seqItems hTI rfl ?_)))
  show wpAny _ _ (Builtin.SmallTypes.ownedTupleIsFree (.ref z) >>= _) _ _ _
  refine wpAny_bind ?_
  unfold Builtin.SmallTypes.ownedTupleIsFree
  refine wpAny_bind (wpAny_field hz rfl (x := .none) rfl (wpAny_pure ?_))
  simp only [if_true]
  refine wpAny_bind (wpAny_rule (wpAny_bind (wpAny_field hz rfl (x := .ref TO) rfl ?_)))
  refine wpAny_bind (wpAny_setField_rec hz (by simp) fun g1 z1 s1 => ?_)
  replace z1 : IsZip g1 z TI TO .ellipsis := z1
  refine wpAny_bind ?_
  simp only [List.zipIdx_cons, List.zipIdx_nil, List.forIn_cons, List.forIn_nil]
  refine wpAny_bind (wpAny_bind (wpAny_onRaise ?_))
  show wpAny _ _ (Builtin.SmallTypes.nextOf (.ref i1) >>= _) _ _ _
  have a1 : S1 g1 k := N1.along _ _ _ h1 (fun o e => s1.extBut _ _ D.i1z e) fun o e => s1.extBut _ _ D.l1z e
  cases hx : xs[k]? with
  | none =>
    refine wpAny_bind (N1.fin _ _ _ k _ hh a1 hx fun g2 e s2 he => ?_)
    obtain ⟨oe, hoe, hce⟩ := he
    have z2 : IsZip g2 z TI TO .ellipsis := s2 _ _ D.i1z.symm z1
    have ez : e ≠ z := fun q => by subst q; rw [z2] at hoe; cases hoe; simp at hce
    refine wpAny_setField_rec z2 (by simp) fun g3 _ s3 => wpAny_bind (wpAny_isInstance (T := "StopIteration") (b := true) ⟨oe, s3.extBut _ _ ez hoe, hce⟩ isSubtype_stop (wpAny_pure (hQ _ fun c o c1 _ c3 _ q => s3.extBut _ _ c1 (s2 _ _ c3 (s1.extBut _ _ c1 q)))))
  | some x =>
    have hy : ys[k]? = none := hend.resolve_left (by rw [hx]; exact fun q => nomatch q)
    refine wpAny_bind (N1.item _ _ _ k x _ a1 hx fun g2 a2 s2 => wpAny_pure ?_)
    have o2 : IsPair g2 TO a b := s2.extBut _ _ D.TOi1 (s1.extBut _ _ D.TOz hTO)
    refine wpAny_bind (wpAny_seqItems o2 rfl (wpAny_bind (wpAny_updateSeq_pair o2 fun g3 o3 s3 => ?_)))
    refine wpAny_bind (wpAny_letGo (wpAny_pure (wpAny_bind (wpAny_bind (wpAny_onRaise ?_)))))
    show wpAny _ _ (Builtin.SmallTypes.nextOf (.ref i2) >>= _) _ _ _
    have b3 : S2 g3 k := N2.along _ _ _ h2 (fun o e => s3.extBut _ _ D.TOi2.symm (s2.extBut _ _ D.i12.symm (s1.extBut _ _ D.i2z e))) fun o e => s3.extBut _ _ D.l2TO (s2.extBut _ _ D.l2i1 (s1.extBut _ _ D.l2z e))
    refine wpAny_bind (N2.fin _ _ _ k _ hh b3 hy fun g4 e s4 he => ?_)
    obtain ⟨oe, hoe, hce⟩ := he
    have z4 : IsZip g4 z TI TO .ellipsis := s4 _ _ D.i2z.symm (s3.extBut _ _ D.TOz.symm (s2.extBut _ _ D.i1z.symm z1))
    have ez : e ≠ z := fun q => by subst q; rw [z4] at hoe; cases hoe; simp at hce
    refine wpAny_setField_rec z4 (by simp) fun g5 _ s5 => wpAny_bind (wpAny_isInstance (T := "StopIteration") (b := true) ⟨oe, s5.extBut _ _ ez hoe, hce⟩ isSubtype_stop (wpAny_pure (hQ _ fun c o c1 c2 c3 c4 q => s5.extBut _ _ c1 (s4 _ _ c4 (s3.extBut _ _ c2 (s2.extBut _ _ c3 (s1.extBut _ _ c1 q)))))))
end
section
variable {prog : Program} {w : World} {A : Around} {E : Value → Shared → Prop} {s : Shared}
abbrev zm1 (h : Heap) (a : Addr) : Heap := h.push { cls := .type "tuple_iterator", data := .fields #[.ref a, .int 0 0] }
abbrev zm2 (h : Heap) (a b : Addr) : Heap := (zm1 h a).push { cls := .type "list_iterator", data := .fields #[.ref b, .int 0 0] }
abbrev zm3 (h : Heap) (a b : Addr) : Heap := (zm2 h a b).push { cls := .type "tuple", data := .seq #[.ref h.objs.size, .ref (zm1 h a).objs.size] }
abbrev zm4 (h : Heap) (a b : Addr) : Heap := (zm3 h a b).push { cls := .type "tuple", data := .seq #[.none, .none] }
abbrev zm5 (h : Heap) (a b : Addr) : Heap := (zm4 h a b).push { cls := .type "zip", data := .fields #[.none, .bool false, .bool false, .ref (zm2 h a b).objs.size, .ref (zm3 h a b).objs.size] }
theorem meets_zm (a b : Addr) (xs ys : Array Value) :
    Meets (Builtin.«zip.__new__» ⟨[.type "zip", .ref a, .ref b], []⟩) (fun _ R s => s.heap.IsTuple a xs ∧ s.heap.IsList b ys ∧ R (.ok (.ret (.ref (zm4 s.heap a b).objs.size))) { s with heap := zm5 s.heap a b }) :=
  .of_wp fun prog w A R s h => by
    obtain ⟨hp, g, d, tk, os⟩ := s
    obtain ⟨q1, q2, h⟩ := h
    have sub := sub_zip
    have L1 : Heap.IsTuple (Shared.heap ⟨hp, g, d, tk, os⟩) a xs := q1
    have L2 : Heap.IsList (Shared.heap ⟨hp.push { cls := .type "tuple_iterator", data := .fields #[.ref a, .int 0 0] }, g, d, tk, os⟩) b ys := Heap.IsList.push q2 _
    wp_walk using wpAny_pyIter_tuple L1, wpAny_pyIter_list L2
    exact ⟨_, rfl, h⟩
theorem call_zm {a b : Addr} {xs ys : Array Value} {Q : Value → Shared → Prop} (q1 : s.heap.IsTuple a xs) (q2 : s.heap.IsList b ys)
    (h : ∀ g, IsZip g (s.heap.objs.size + 4) (s.heap.objs.size + 2) (s.heap.objs.size + 3) .none → IsPair g (s.heap.objs.size + 2) (.ref s.heap.objs.size) (.ref (s.heap.objs.size + 1)) →
      IsPair g (s.heap.objs.size + 3) .none .none → g.IsTupleIter s.heap.objs.size a 0 → g.IsListIter (s.heap.objs.size + 1) b 0 → g.objs.size = s.heap.objs.size + 5 → (∀ c o, s.heap.get? c = some o → g.get? c = some o) → Q (.ref (s.heap.objs.size + 4)) { s with heap := g }) :
    wpAny (model prog w) A (call (.type "zip") [.ref a, .ref b]) Q E s := by
  refine callType_new F.called_zip (by decide) (F.typeCall_zip_2 _ _) (F.newCall_zip_2 _ _) (fun obj => F.args_object_init_3 obj _ _) F.entry_zip_new (meets_zm a b xs ys) ⟨q1, q2, ?_⟩
  have e1 : (zm1 s.heap a).objs.size = s.heap.objs.size + 1 := Heap.size_push ..
  have e2 : (zm2 s.heap a b).objs.size = s.heap.objs.size + 2 := by rw [Heap.size_push, e1]
  have e3 : (zm3 s.heap a b).objs.size = s.heap.objs.size + 3 := by rw [Heap.size_push, e2]
  have e4 : (zm4 s.heap a b).objs.size = s.heap.objs.size + 4 := by rw [Heap.size_push, e3]
  have e5 : (zm5 s.heap a b).objs.size = s.heap.objs.size + 5 := by rw [Heap.size_push, e4]
  have g5 : (zm5 s.heap a b).get? (zm4 s.heap a b).objs.size = some _ := Heap.get?_push_size _ rfl
  have g4 : (zm5 s.heap a b).get? (zm3 s.heap a b).objs.size = some _ := Heap.get?_push_of_some _ (Heap.get?_push_size _ rfl)
  have g3 : (zm5 s.heap a b).get? (zm2 s.heap a b).objs.size = some _ := Heap.get?_push_of_some _ (Heap.get?_push_of_some _ (Heap.get?_push_size _ rfl))
  have g2 : (zm5 s.heap a b).get? (zm1 s.heap a).objs.size = some _ := Heap.get?_push_of_some _ (Heap.get?_push_of_some _ (Heap.get?_push_of_some _ (Heap.get?_push_size _ rfl)))
  have g1 : (zm5 s.heap a b).get? s.heap.objs.size = some _ := Heap.get?_push_of_some _ (Heap.get?_push_of_some _ (Heap.get?_push_of_some _ (Heap.get?_push_of_some _ (Heap.get?_push_size _ rfl))))
  show _ ∧ _
  rw [e2, e3, e4] at g5
  rw [e1, e2] at g3
  rw [e3] at g4
  rw [e1] at g2
  rw [e4]
  exact ⟨⟨_, g5, rfl⟩, h _ g5 g3 g4 ⟨_, g1, rfl, rfl⟩ ⟨_, g2, rfl, rfl⟩ e5 fun c o x => Heap.get?_push_of_some _ (Heap.get?_push_of_some _ (Heap.get?_push_of_some _ (Heap.get?_push_of_some _ (Heap.get?_push_of_some _ x))))⟩
end
/-- a tuple and a list as they stand at each turn, the items in new pairs -/
def Izm (K : PySem.W.Frag) (a b : Addr) : It :=
  ⟨fun i H => ∃ (xs ys : List V) (x y : V), SqT K H a xs ∧ SqL K H b ys ∧ xs[i]? = some x ∧ ys[i]? = some y,
    fun i H v H' => ∃ T x y, v = .ref T ∧ H T = none ∧ H' = upd H T (.tup [x, y]) ∧ (∀ xs, SqT K H a xs → xs[i]? = some x) ∧ ∀ ys, SqL K H b ys → ys[i]? = some y,
    fun i H => ∃ xs ys : List V, SqT K H a xs ∧ SqL K H b ys ∧ (xs.length ≤ i ∨ ys.length ≤ i)⟩
theorem turn_zm {P : Program} {w : World} {K : PySem.W.Frag} {elts : List Expr} {kk : Nat} {tpos : Pos} {a b z TI TO i1 i2 : Addr} (D : ZipApart z TI TO i1 i2 a b) :
    Turn P w K (.Tuple elts kk tpos) (Izm K a b) [z, TI, TO, i1, i2] z (fun i h => IsZip h z TI TO .none ∧ IsPair h TI (.ref i1) (.ref i2) ∧ (∃ x y, IsPair h TO x y) ∧ h.IsTupleIter i1 a i ∧ h.IsListIter i2 b i) where
  mem := by simp
  obj := fun i h ⟨q1, q2, ⟨x, y, q3⟩, ⟨o1, e1, _, d1⟩, ⟨o2, e2, _, d2⟩⟩ c hc => by
    simp only [List.mem_cons, List.not_mem_nil, or_false] at hc
    rcases hc with q | q | q | q | q
    · rw [q]; exact ⟨_, q1, fun v u => nomatch u⟩
    · rw [q]; exact ⟨_, q2, fun v u => nomatch u⟩
    · rw [q]; exact ⟨_, q3, fun v u => nomatch u⟩
    · rw [q]; exact ⟨o1, e1, fun v u => by rw [d1] at u; cases u⟩
    · rw [q]; exact ⟨o2, e2, fun v u => by rw [d2] at u; cases u⟩
  keep := fun i h h' ⟨q1, q2, ⟨x, y, q3⟩, q4, q5⟩ k =>
    ⟨k z (by simp) _ q1, k TI (by simp) _ q2, ⟨x, y, k TO (by simp) _ q3⟩, q4.at fun o q => k i1 (by simp) o q, q5.at fun o q => k i2 (by simp) o q⟩
  item := by
    intro X eP ew eK hc i pins s σ H E I hf st hg
    subst eP ew eK
    obtain ⟨q1, q2, ⟨x0, y0, q3⟩, q4, q5⟩ := st
    obtain ⟨xs, ys, x, y, hqx, hqy, hx, hy⟩ := hg
    obtain ⟨us, rv, p, _⟩ := I.tuple hqx
    obtain ⟨vs, rv2, p2, _⟩ := I.list hqy
    obtain ⟨u, hu, ru⟩ := rv.get hx
    obtain ⟨v, hv, rv'⟩ := rv2.get hy
    have zl : z < s.heap.objs.size := Heap.lt_size q1
    refine zipN_item D (nx_tup D.l1i1) (nx_lst D.l2i2) q1 q2 q3 ⟨q4, p⟩ ⟨q5, p2.isList⟩ (x := u) (y := v) (by simpa using hu) (by simpa using hv) fun g r1 r3 r4 r5 r6 rz hk => ?_
    refine ⟨_, rfl, wpAny_letOwnedTupleGo_zip (s := { s with heap := g }) r1 fun g' z'' sb => ?_⟩
    have T2 : g'.get? s.heap.objs.size = some { cls := .type "tuple", data := .seq #[u, v] } := (sb.2 _ (Nat.ne_of_gt zl)).trans r6
    have new : ObjOk X.prog X.w (upd H s.heap.objs.size (.tup [x, y])) g' s.heap.objs.size (.tup [x, y]) := ⟨by show 2 ≤ sizeLine; decide, [u, v], .cons ru (.cons rv' .nil), ⟨_, T2, rfl, _, rfl⟩⟩
    have J : Inv X pins σ (upd H s.heap.objs.size (.tup [x, y])) { s with heap := g' } :=
      I.turnedNew (t' := s.toks) (ch := [z, TI, TO, i1, i2]) (fun c o nb q => (sb.2 c (fun e => nb (by simp [e]))).trans (hk c o (fun e => nb (by simp [e])) (fun e => nb (by simp [e])) (fun e => nb (by simp [e])) (fun e => nb (by simp [e])) q)) hf (Nat.le_refl _) new
    refine ⟨.ref s.heap.objs.size, _, J, rfl, ⟨_, x, y, rfl, I.hok.fresh (Nat.le_refl _), rfl, fun l hl => by rw [I.tuple_inj hl hqx]; exact hx, fun l hl => by rw [I.list_inj hl hqy]; exact hy⟩, ⟨z'', (sb.2 _ D.TIz).trans (hk _ _ D.TIz D.TITO D.TIi1 D.TIi2 q2), ⟨u, v, (sb.2 _ D.TOz).trans r3⟩, r4.1.at fun o q => (sb.2 _ D.i1z).trans q, r5.1.at fun o q => (sb.2 _ D.i2z).trans q⟩, fun c hcm => ?_⟩
    have lt : c < s.heap.objs.size := by
      have hm := hcm
      simp only [List.mem_cons, List.not_mem_nil, or_false] at hm
      rcases hm with q | q | q | q | q
      · rw [q]; exact zl
      · rw [q]; exact Heap.lt_size q2
      · rw [q]; exact Heap.lt_size q3
      · rw [q]; obtain ⟨_, e, _⟩ := q4; exact Heap.lt_size e
      · rw [q]; obtain ⟨_, e, _⟩ := q5; exact Heap.lt_size e
    rw [upd_ne (Nat.ne_of_lt lt)]
    exact (hf c hcm).1
  done := by
    intro X eP ew eK hc i pins s σ H E I hf st hg
    subst eP ew eK
    obtain ⟨q1, q2, ⟨x0, y0, q3⟩, q4, q5⟩ := st
    obtain ⟨xs, ys, hqx, hqy, hend⟩ := hg
    obtain ⟨us, rv, p, _⟩ := I.tuple hqx
    obtain ⟨vs, rv2, p2, _⟩ := I.list hqy
    have n1 := rv.length
    have n2 := rv2.length
    have he : us.toArray[i]? = none ∨ vs.toArray[i]? = none := hend.imp (fun q => by simp; omega) fun q => by simp; omega
    exact zipN_end (I.ok.hd hc) D (nx_tup D.l1i1) (nx_lst D.l2i2) q1 q2 q3 ⟨q4, p⟩ ⟨q5, p2.isList⟩ he fun g hk => ⟨rfl, I.turnedL (t' := s.toks) (ch := [z, TI, TO, i1, i2]) (fun c o nb q => hk c o (fun e => nb (by simp [e])) (fun e => nb (by simp [e])) (fun e => nb (by simp [e])) (fun e => nb (by simp [e])) q) hf⟩
  self := fun A i s Q E st h => wpAny_pyIter_zip st.1 h
def iZm (K : PySem.W.Frag) (ta : TA) : TI := fun σ H R => ta σ H fun vs H1 => ∃ a b xs ys, vs = [.ref a, .ref b] ∧ SqT K H1 a xs ∧ SqL K H1 b ys ∧ R (Izm K a b) H1
theorem pi_zm {X : Cx} {e e2 : Expr} {ta : TA} {p pos tpos : Pos} {elts : List Expr} {kk : Nat} (hg : Gl X "zip") (hm : X.mg "zip" = none) (ha : PA X [e, e2] ta)
    (hs : starEach [e, e2] X.env = (false, eval e X.env) :: starEach [e2] X.env := by rfl) (hpl : (backTo pos (starEach [e2] X.env)).any (·.1) = false := by rfl) : PI X (.Tuple elts kk tpos) (.Call (.Name "zip" p) [e, e2] [] pos) (iZm X.K ta) := by
  refine ⟨fun pins s σ H R I h => ?_⟩
  refine Call_ (ld_blt I hg hm PyProof.Rows.boot_zip (PyProof.Rows.callWith_type1 (thn (ha.run pos pins s σ H _ I h) fun us s1 ⟨vs, H1, I1, r1, a, b, xs, ys, ex, hqx, hqy, q⟩ => ?_) hs hpl))
  subst ex
  obtain ⟨u1, u2, eu, ra, rb⟩ := vals2 r1
  subst eu
  obtain rfl : u1 = Value.ref a := ra
  obtain rfl : u2 = Value.ref b := rb
  obtain ⟨us, rv, p1, _⟩ := I1.tuple hqx
  obtain ⟨vs, rv2, p2, _⟩ := I1.list hqy
  obtain ⟨o1, ho1, _⟩ := id p1
  refine call_zm (show s1.heap.IsTuple a us.toArray from p1) p2.isList fun g hz hTI hTO h1 h2 hsz hk => wpAny_pyIter_zip hz ?_
  have I2 : Inv X pins σ H1 { s1 with heap := g } := I1.kept (t' := s1.toks) hk
  refine ⟨s1.heap.objs.size + 4, [s1.heap.objs.size + 4, s1.heap.objs.size + 2, s1.heap.objs.size + 3, s1.heap.objs.size, s1.heap.objs.size + 1], _, _, H1, rfl, I2, turn_zm (PySem.W.ktu_apart s1.heap.objs.size a b (Heap.lt_size ho1) p2.lt), ⟨hz, hTI, ⟨_, _, hTO⟩, h1, h2⟩, fun c hcm => ?_, q⟩
  have le : s1.heap.objs.size ≤ c := by
    simp only [List.mem_cons, List.not_mem_nil, or_false] at hcm
    rcases hcm with q | q | q | q | q <;> rw [q] <;> first | exact Nat.le_add_right _ _ | exact Nat.le_refl _
  exact I1.fpOk le (I1.hok.fresh le)
theorem walk_zm {K : PySem.W.Frag} {a b : Addr} {xs ys : List V} {n : Nat} (hn : n = min xs.length ys.length) : Walk (Izm K a b) n (fun H => SqT K H a xs ∧ SqL K H b ys) (YPair (fun i => xs[i]?) (fun i => ys[i]?)) := by
  subst hn
  refine ⟨fun i _ hi q => ?_, fun _ q => ⟨xs, ys, q.1, q.2, by omega⟩, fun i H v H' _ q ⟨T, x, z, h1, h2, h3, h4, h5⟩ => ⟨T, x, z, h1, h2, h3, h4 xs q.1, h5 ys q.2⟩⟩
  have i1 : i < xs.length := by omega
  have i2 : i < ys.length := by omega
  exact ⟨xs, ys, xs[i], ys[i], q.1, q.2, List.getElem?_eq_getElem i1, List.getElem?_eq_getElem i2⟩
end Nf

set_option Elab.async false
set_option linter.all false
set_option maxRecDepth 100000
/-! zip of a tuple and a list -/
namespace Sh
open PySem L2 Nf
def fZipM : D → D → Option (List D)
  | .tup xs, .lst ys => szl xs.length (prs xs ys)
  | x, y => fZip x y
section
variable {X : Cx} {Γ : Gm} {p pos : Pos}
theorem di_zipM {a b : Expr} {t u : Ed} {elts : List Expr} {kk : Nat} {tpos : Pos} (ha : DE X Γ a t) (hb : DE X Γ b u) (hg : Gl X "zip") (hm : X.mg "zip" = none) (hs : starEach [a, b] X.env = [(false, eval a X.env), (false, eval b X.env)] := by rfl) (hs2 : starEach [b] X.env = [(false, eval b X.env)] := by rfl)
    (h1 : starEach [a, b] X.env = (false, eval a X.env) :: starEach [b] X.env := by rfl) (h2 : starEach [b] X.env = (false, eval b X.env) :: starEach [] X.env := by rfl) (hpl : (backTo pos (starEach [b] X.env)).any (·.1) = false := by rfl) (hK : X.K = Γ.c.K := by rfl) : DI X Γ (.Tuple elts kk tpos) (.Call (.Name "zip" p) [a, b] [] pos) (i2 fZipM t u) :=
  ⟨PI.wk (PI.or (di_zip ha hb hg hm hs hs2 h1 h2 hpl hK).p (pi_zm hg hm (pa_cons ha.p (pa_cons hb.p pa_nil h2) h1) h1 hpl)) fun σ H Q ⟨R, ρ, n, ds, n', rp, e, q⟩ => by
    obtain ⟨d, m, e1, w1⟩ := Mb_some e
    obtain ⟨d2, m2, e2, w2⟩ := Mb_some w1
    obtain ⟨ee, rfl⟩ := Mo_some w2
    by_cases hx : ∃ xs ys, d = .tup xs ∧ d2 = .lst ys
    · obtain ⟨xs, ys, rfl, rfl⟩ := hx
      obtain ⟨hz, rfl⟩ := szl_some (show szl xs.length (prs xs ys) = some ds from ee)
      refine .inr ⟨R, ρ, n, _, _, rp, e1, fun v R1 H1 rp1 S1 z1 => ⟨R1, ρ, m, _, _, rp1, e2, fun v2 R2 H2 rp2 S2 z2 => ?_⟩⟩
      obtain ⟨a1, us, rfl, g1, l1, f1⟩ := (z1.mono S2.le).tup_inv
      obtain ⟨a2, vs, rfl, g2, l2, f2⟩ := z2.lst_inv
      refine ⟨a1, a2, us, vs, rfl, hK ▸ rp2.hp.same.sqT g1, SqL.of (rp2.hp.same.l g2), q _ (fun H => SqT X.K H a1 us ∧ SqL X.K H a2 vs) _ R2 H2 rp2 (S1.trans S2) ?_ (fun H3 S => ⟨hK ▸ S.sqT g1, SqL.of (S.l g2)⟩) (prs_yok f1 f2) (by rw [prs_len]; omega)⟩
      rw [prs_len, ← f1.len, ← f2.len]; exact walk_zm (xs := us) (ys := vs) rfl
    · refine .inl ⟨R, ρ, n, ds, _, rp, ?_, q⟩
      have e3 : fZip d d2 = some ds := by
        cases d <;> cases d2 <;> first | exact ee | exact absurd ⟨_, _, rfl, rfl⟩ hx
      exact (Mb_eq e1).trans ((Mb_eq e2).trans (by show Mo (fZip d d2) _ = _; rw [e3]; rfl))⟩
end
theorem zipM_tl {xs ys : List D} (h : xs.length ≤ 1000000) : fZipM (.tup xs) (.lst ys) = some (prs xs ys) := by
  show szl _ _ = _; unfold szl; rw [if_pos (by rw [PySem.sizeLine_eq]; omega)]
end Sh

set_option Elab.async false
set_option linter.all false
set_option maxRecDepth 100000
/-! a, b, c = a list -/
namespace Sh
open PySem PySem.Spec PyProof.Rows L2
section
variable {prog : Program} {w : World} {A : Around} {E : Value → Shared → Prop}
theorem drawn_lst {it l : Addr} {vs : Array Value} (ne : l ≠ it) : ∀ (k i : Nat) (s : Shared) (Q : List Value → Shared → Prop), s.heap.IsListIter it l i → s.heap.IsList l vs → i + k ≤ vs.size →
    (∀ g, g.IsListIter it l (i + k) → Heap.SameBut it s.heap g → Q ((vs.toList.drop i).take k) { s with heap := g }) → wpAny (model prog w) A (draw (.ref it) k) Q E s
  | 0, i, s, Q, a, _, _, q => by
    show wpAny (model prog w) A (pure ([] : List Value)) Q E s
    refine wpAny_pure ?_
    simpa using q s.heap a (Heap.SameBut.refl ..)
  | k + 1, i, s, Q, a, b, le, q => by
    have lt : i < vs.size := by omega
    unfold draw
    refine wpAny_bind (wpAny_pyNext_list_item a b (x := vs[i]) (by simp [lt]) fun g1 a1 s1 => ?_)
    refine wpAny_bind (wpAny_holding (drawn_lst ne k (i + 1) _ _ a1 (b.extBut s1.extBut ne) (by omega) fun g2 a2 s2 => wpAny_pure ?_))
    have z := q g2 (by rw [show i + (k + 1) = i + 1 + k by omega]; exact a2) (s1.trans s2)
    rwa [List.drop_eq_getElem_cons (by simpa using lt), List.take_succ_cons] at z
theorem unpacked_lst {s : Shared} {l : Addr} {vs : Array Value} {Q : List Value → Shared → Prop} (hh : A.handled = none) (b : s.heap.IsList l vs)
    (q : ∀ g, Heap.ExtBut s.heap.objs.size s.heap g → Q vs.toList { s with heap := g }) : wpAny (model prog w) A (unpackItems (.ref l) vs.size none) Q E s := by
  have ne : l ≠ s.heap.objs.size := by obtain ⟨o, ho, _⟩ := b; exact Nat.ne_of_lt (Heap.lt_size ho)
  have all : (vs.toList.drop 0).take vs.size = vs.toList := by rw [List.drop_zero]; exact List.take_of_length_le (by simp)
  unfold unpackItems notIterableAtAll
  refine wpAny_bind (wpAny_bind (wpAny_specialOf b.typeIs slot_list_iter.lookup (wpAny_pure ?_)))
  rw [if_neg (by decide)]
  refine wpAny_bind (wpAny_holding (wpAny_pyIter_list b ?_))
  refine wpAny_bind (wpAny_holding (drawn_lst ne vs.size 0 _ _ ⟨_, Heap.get?_push_size _ rfl, rfl, rfl⟩ (b.push _) (by omega) fun g1 a1 s1 => ?_))
  rw [all, if_neg (by simp)]
  have b1 : g1.IsList l vs := (b.push _).extBut s1.extBut ne
  refine wpAny_bind (wpAny_holding (wpAny_pyNext_list_end hh a1 b1 (by simp) fun g2 e2 => ?_))
  rw [if_neg (by simp)]
  exact wpAny_pure (q g2 fun c o hc e => e2 c o hc (s1.extBut c o hc (Heap.get?_push_of_some _ e)))
end
def gLst (K : PySem.W.Frag) (n : Nat) (t : TGs) : TG := fun v σ H Q => ∃ a xs, v = .ref a ∧ SqL K H a xs ∧ xs.length = n ∧ t xs σ H Q
theorem pg_lst {X : Cx} {es : List Expr} {k : Nat} {t : TGs} {n : Nat} {pos : Pos} (hc : X.calm = true) (h : PGs X es t) (hn : (assignEach es X.env).length = n := by rfl) (hst : (assignEach es X.env).findIdx? (·.1) = none := by rfl) : PG X (.Tuple es k pos) (gLst X.K n t) := by
  refine ⟨fun pins s σ H v u Q I r hw => ?_⟩
  obtain ⟨a, xs, rfl, hq, hl, hw⟩ := hw
  cases r
  obtain ⟨its, rv, p, hz⟩ := I.list hq
  rw [assign_Tuple]
  refine wpAny_bind (wpAny_standAt ?_)
  unfold unpack
  have e1 : (assignEach es X.env).length = its.toArray.size := by rw [hn, ← hl, rv.length]; simp
  rw [e1, hst]
  refine wpAny_bind (wpAny_holding (unpacked_lst (I.ok.hd hc) p.isList fun g hx => ?_))
  have I1 : Inv X pins σ H { s with heap := g } := I.kept (t' := s.toks) fun b o e => hx b o (Nat.ne_of_lt (Heap.lt_size e)) e
  exact h.run pins _ σ H xs _ Q I1 (by simpa using rv) hw
end Sh

set_option Elab.async false
set_option linter.all false
set_option maxRecDepth 100000
/-! unfinished things -/
namespace Sh
open PySem L2 Nf
inductive U where
  | name (x : Str) | skip | made (w : Str) (ps : List U)
mutual
def U.d : U → D
  | .name x => .tup [.str "name", .str x]
  | .skip => .tup [.str "skip"]
  | .made w ps => .tup [.str "made", .str w, .tup (U.dA ps)]
def U.dA : List U → List D
  | [] => []
  | u :: r => U.d u :: U.dA r
end
theorem U.dA_map : ∀ ps : List U, U.dA ps = ps.map U.d
  | [] => rfl
  | u :: r => by simp only [U.dA, List.map_cons, U.dA_map r]
theorem U.d_made (w : Str) (ps : List U) : (U.made w ps).d = .tup [.str "made", .str w, .tup (ps.map U.d)] := by simp only [U.d, U.dA_map]
theorem U.d_name (x : Str) : (U.name x).d = .tup [.str "name", .str x] := by simp only [U.d]
theorem U.d_skip : U.skip.d = .tup [.str "skip"] := by simp only [U.d]
def U.hd : U → Str
  | .name _ => "name"
  | .skip => "skip"
  | .made _ _ => "made"
abbrev okS (x : Str) : Prop := PyData.strOk x = true
def U.ok : Nat → U → Prop
  | 0, _ => False
  | _ + 1, .name x => okS x
  | _ + 1, .skip => True
  | n + 1, .made w ps => okS w ∧ ps.length ≤ 3 ∧ ∀ p ∈ ps, U.ok n p
theorem U.ok_mono : ∀ {n m : Nat} {u : U}, n ≤ m → U.ok n u → U.ok m u
  | 0, _, _, _, h => h.elim
  | n + 1, 0, _, hn, _ => by omega
  | n + 1, m + 1, .name x, _, h => h
  | n + 1, m + 1, .skip, _, h => h
  | n + 1, m + 1, .made w ps, hn, h => ⟨h.1, h.2.1, fun p hp => U.ok_mono (by omega) (h.2.2 p hp)⟩
/-! laid as Python's data -/
mutual
def U.p : U → PyData
  | .name x => .tuple [.str "name", .str x]
  | .skip => .tuple [.str "skip"]
  | .made w ps => .tuple [.str "made", .str w, .tuple (U.pA ps)]
def U.pA : List U → List PyData
  | [] => []
  | u :: r => U.p u :: U.pA r
end
mutual
theorem U.py : ∀ u : U, u.d.py = some u.p
  | .name x => rfl
  | .skip => rfl
  | .made w ps => by
    simp only [U.d, D.py, D.pyA, U.pyA ps, U.p, Option.map_some]
theorem U.pyA : ∀ ps : List U, D.pyA (U.dA ps) = some (U.pA ps)
  | [] => rfl
  | u :: r => by simp only [U.dA, D.pyA, U.py u, U.pyA r, U.pA]
end
theorem lit_ok : okS "name" ∧ okS "skip" ∧ okS "made" := by decide +kernel
theorem U.lay : ∀ {n : Nat} {u : U}, U.ok n u → u.p.canLay0 = true ∧ u.p.depth ≤ 2 * n
  | 0, _, h => h.elim
  | n + 1, .name x, h => by
    have hx : PyData.strOk x = true := h
    have := lit_ok.1
    simp only [U.p, PyData.canLay0, PyData.canLayAll0, PyData.depth, PyData.depthAll, this, hx]
    exact ⟨rfl, by omega⟩
  | n + 1, .skip, _ => by
    have := lit_ok.2.1
    simp only [U.p, PyData.canLay0, PyData.canLayAll0, PyData.depth, PyData.depthAll, this]
    exact ⟨rfl, by omega⟩
  | n + 1, .made w ps, h => by
    have hw : PyData.strOk w = true := h.1
    have key : ∀ qs : List U, (∀ p ∈ qs, U.ok n p) → PyData.canLayAll0 (U.pA qs) = true ∧ PyData.depthAll (U.pA qs) ≤ 2 * n := by
      intro qs
      induction qs with
      | nil => intro _; simp [U.pA, PyData.canLayAll0, PyData.depthAll]
      | cons q r ih =>
        intro hq
        obtain ⟨a1, a2⟩ := U.lay (hq q (by simp))
        obtain ⟨b1, b2⟩ := ih fun p hp => hq p (by simp [hp])
        simp only [U.pA, PyData.canLayAll0, PyData.depthAll, a1, b1]
        exact ⟨rfl, by omega⟩
    obtain ⟨c1, c2⟩ := key ps h.2.2
    have := lit_ok.2.2
    simp only [U.p, PyData.canLay0, PyData.canLayAll0, PyData.depth, PyData.depthAll, this, hw, c1]
    exact ⟨rfl, by omega⟩
theorem U.shaped {n : Nat} {u : U} (h : U.ok n u) (hn : n ≤ 32) : SeqAt.shaped u.p = true := by
  obtain ⟨a, b⟩ := U.lay h
  unfold SeqAt.shaped
  rw [a, decide_eq_true (by omega)]
  rfl
/-- a name and another thing -/
def U.isNm (x : Str) : U → Bool
  | .name y => decide (x = y)
  | _ => false
def U.isSk : U → Bool
  | .skip => true
  | _ => false
theorem eqb_tup {x y : List D} {p q : PyData} (h1 : (D.tup x).py = some p) (h2 : (D.tup y).py = some q) (s1 : SeqAt.shaped p = true) (s2 : SeqAt.shaped q = true) : D.eqb (.tup x) (.tup y) = some (PyData.eqv p q) := by
  have e : D.eqb (.tup x) (.tup y) = (match (D.tup x).py, (D.tup y).py with
    | some p, some q => if SeqAt.shaped p = true ∧ SeqAt.shaped q = true then some (PyData.eqv p q) else none
    | _, _ => none) := rfl
  rw [e, h1, h2]
  show (if SeqAt.shaped p = true ∧ SeqAt.shaped q = true then some (PyData.eqv p q) else none) = _
  rw [if_pos ⟨s1, s2⟩]
theorem U.d_tup (u : U) : ∃ ds, u.d = .tup ds := by cases u <;> simp only [U.d] <;> exact ⟨_, rfl⟩
theorem U.eqb {n : Nat} {u v : U} (h : U.ok n u) (k : U.ok n v) (hn : n ≤ 32) : D.eqb u.d v.d = some (PyData.eqv u.p v.p) := by
  obtain ⟨x, hx⟩ := u.d_tup
  obtain ⟨y, hy⟩ := v.d_tup
  have e1 := u.py
  have e2 := v.py
  rw [hx] at e1 ⊢
  rw [hy] at e2 ⊢
  exact eqb_tup e1 e2 (U.shaped h hn) (U.shaped k hn)
theorem nm_eqv (x : Str) (v : U) : PyData.eqv (U.name x).p v.p = U.isNm x v := by
  cases v with
  | name y =>
    simp only [U.p, PyData.eqv, PyData.eqvAll, U.isNm, Bool.and_true, beq_self_eq_true, Bool.true_and]
    exact Bool.beq_eq_decide_eq x y
  | skip => simp [U.p, PyData.eqv, PyData.eqvAll, U.isNm]
  | made w ps => simp [U.p, PyData.eqv, PyData.eqvAll, U.isNm]
theorem sk_eqv (v : U) : PyData.eqv v.p U.skip.p = U.isSk v := by
  cases v with
  | name y => simp [U.p, PyData.eqv, PyData.eqvAll, U.isSk]
  | skip => simp [U.p, PyData.eqv, PyData.eqvAll, U.isSk]
  | made w ps => simp [U.p, PyData.eqv, PyData.eqvAll, U.isSk]
theorem U.ix0 (u : U) : fIx u.d (.int 0) = some (.str u.hd) := by cases u <;> simp only [U.d] <;> rfl
theorem ix_made1 (w : Str) (ps : List U) : fIx (U.made w ps).d (.int 1) = some (.str w) := by simp only [U.d]; rfl
theorem ix_made2 (w : Str) (ps : List U) : fIx (U.made w ps).d (.int 2) = some (.tup (ps.map U.d)) := by rw [U.d_made]; rfl
/-! the verdict -/
mutual
def vf : U → U → Option Bool × Nat
  | .name x, v => (if U.isNm x v = true then some true else none, 0)
  | .made w ps, .made w' qs => if w = w' then (let r := vfA ps qs; (r.1, 1 + r.2)) else (some false, 1)
  | _, _ => (none, 0)
def vfA : List U → List U → Option Bool × Nat
  | p :: ps, q :: qs => match vf p q with
    | (some true, k) => (let r := vfA ps qs; (r.1, k + r.2))
    | o => o
  | _, _ => (some true, 0)
end
def vS : List (U × U) → Option Bool × Nat
  | [] => (some true, 0)
  | p :: r => match vf p.1 p.2 with
    | (some true, k) => (let s := vS r; (s.1, k + s.2))
    | o => o
theorem vfA_zip : ∀ (ps qs : List U), vfA ps qs = vS (ps.zip qs)
  | [], _ => by simp [vfA, vS]
  | _ :: _, [] => by simp [vfA, vS]
  | p :: ps, q :: qs => by
    rw [List.zip_cons_cons]
    simp only [vfA, vS]
    rw [vfA_zip ps qs]
theorem vS_app : ∀ (a b : List (U × U)), vS (a ++ b) = match vS a with
    | (some true, k) => ((vS b).1, k + (vS b).2)
    | o => o
  | [], b => by simp [vS]
  | p :: r, b => by
    simp only [List.cons_append, vS]
    rw [vS_app r b]
    rcases vf p.1 p.2 with ⟨o, k⟩
    match o with
    | none => rfl
    | some false => rfl
    | some true =>
      dsimp only
      rcases vS r with ⟨o2, k2⟩
      match o2 with
      | none => rfl
      | some false => rfl
      | some true => simp [Nat.add_assoc]
def vd : Option Bool → D
  | none => .non
  | some true => .tup [.str "made", .str "yes", .tup []]
  | some false => .tup [.str "made", .str "no", .tup []]
def prD (p : U × U) : D := .tup [p.1.d, p.2.d]
/-! how many nodes -/
mutual
def U.sz : U → Nat
  | .name _ => 1
  | .skip => 1
  | .made _ ps => 1 + U.szA ps
def U.szA : List U → Nat
  | [] => 0
  | u :: r => U.sz u + U.szA r
end
theorem U.sz_pos (u : U) : 0 < u.sz := by cases u <;> simp only [U.sz] <;> omega
theorem U.sz_le : ∀ {n : Nat} {u : U}, U.ok n u → u.sz ≤ 4 ^ n
  | 0, _, h => h.elim
  | n + 1, .name x, _ => by simp only [U.sz]; exact Nat.pow_pos (by decide)
  | n + 1, .skip, _ => by simp only [U.sz]; exact Nat.pow_pos (by decide)
  | n + 1, .made w ps, h => by
    have key : ∀ qs : List U, (∀ p ∈ qs, U.ok n p) → U.szA qs ≤ qs.length * 4 ^ n := by
      intro qs
      induction qs with
      | nil => intro _; simp [U.szA]
      | cons q r ih =>
        intro hq
        have h1 := U.sz_le (hq q (by simp))
        have h2 := ih fun p hp => hq p (by simp [hp])
        simp only [U.szA, List.length_cons, Nat.succ_mul]
        omega
    have h1 := key ps h.2.2
    have h2 : ps.length * 4 ^ n ≤ 3 * 4 ^ n := Nat.mul_le_mul_right _ h.2.1
    have h4 : 0 < 4 ^ n := Nat.pow_pos (by decide)
    simp only [U.sz]
    rw [Nat.pow_succ]
    omega
def ssz (st : List (U × U)) : Nat := (st.map fun q => q.1.sz).sum
theorem ssz_zip : ∀ (ps qs : List U), ssz (ps.zip qs) ≤ U.szA ps
  | [], _ => by simp [ssz]
  | _ :: _, [] => by simp [ssz]
  | p :: ps, q :: qs => by
    have := ssz_zip ps qs
    simp only [ssz, List.zip_cons_cons, List.map_cons, List.sum_cons, U.szA] at this ⊢
    omega
theorem ssz_app (a b : List (U × U)) : ssz (a ++ b) = ssz a + ssz b := by simp [ssz]
theorem ssz_cons (a : U × U) (b : List (U × U)) : ssz (a :: b) = a.1.sz + ssz b := by simp [ssz]
theorem ssz_len : ∀ a : List (U × U), a.length ≤ ssz a
  | [] => Nat.zero_le _
  | p :: r => by
    have := ssz_len r
    have := p.1.sz_pos
    rw [ssz_cons, List.length_cons]
    omega
theorem prs_map (ps qs : List U) : prs (ps.map U.d) (qs.map U.d) = (ps.zip qs).map prD := by
  unfold prs
  rw [List.zip_map, List.map_map]
  rfl
/-! mades -/
mutual
def U.mds : U → Option Nat
  | .skip => none
  | .name _ => some 0
  | .made _ ps => (U.mdsA ps).map (1 + ·)
def U.mdsA : List U → Option Nat
  | [] => some 0
  | u :: r => match U.mds u, U.mdsA r with
    | some a, some b => some (a + b)
    | _, _ => none
end
mutual
theorem vf_self : ∀ (u : U) (k : Nat), u.mds = some k → vf u u = (some true, k)
  | .name x, k, h => by
    simp only [U.mds] at h
    cases h
    simp [vf, U.isNm]
  | .skip, k, h => by simp [U.mds] at h
  | .made w ps, k, h => by
    simp only [U.mds] at h
    obtain ⟨j, hj, rfl⟩ := Option.map_eq_some_iff.mp h
    simp only [vf, if_true, vfA_self ps j hj]
theorem vfA_self : ∀ (ps : List U) (k : Nat), U.mdsA ps = some k → vfA ps ps = (some true, k)
  | [], k, h => by simp only [U.mdsA] at h; cases h; simp [vfA]
  | u :: r, k, h => by
    simp only [U.mdsA] at h
    split at h
    · rename_i a b ha hb
      cases h
      simp only [vfA, vf_self u a ha, vfA_self r b hb]
    · cases h
end
end Sh

set_option Elab.async false
set_option linter.all false
set_option maxRecDepth 100000
namespace Sh
open PySem L2 Nf
/-- a comprehension whose elements draw and change: the i-th by its place -/
theorem Ds.lcI {g : Gd} {te : Ed} {ρ : Sd} {α : Type} {f : α → D} {c : Nat} (I : List D → List D → Prop) : ∀ (xs : List α) (ys0 : List D), (∀ i x, xs[i]? = some x → ∀ ys, ys.length = ys0.length + i → ∃ ρ1, g (f x) ρ = some ρ1 ∧ Ds (te ρ1) (I ys) c fun y ms => I (ys ++ [y]) ms) →
    Ds (lcM g tY te ρ (xs.map f)) (I ys0) (xs.length * c) fun ys ms => ys.length = xs.length ∧ I (ys0 ++ ys) ms
  | [], ys0, h => fun n ms hp hn => ⟨[], n, ms, rfl, by simp, rfl, by rw [List.append_nil]; exact hp⟩
  | x :: r, ys0, h => fun n ms hp hn => by
    rw [List.length_cons, Nat.succ_mul] at hn
    obtain ⟨ρ1, h1, h2⟩ := h 0 x rfl ys0 rfl
    obtain ⟨y, m, ms1, h3, h4, h5⟩ := h2 n ms hp (by omega)
    obtain ⟨ys, m', ms2, h6, h7, h8, h9⟩ := Ds.lcI I r (ys0 ++ [y]) (fun i z hz ys hl => h (i + 1) z (by simpa using hz) ys (by simp at hl ⊢; omega)) m ms1 h5 (by omega)
    exact ⟨y :: ys, m', ms2, lcM_cons h1 h3 h6, by rw [List.length_cons, Nat.succ_mul]; omega, by simp [h8], by rw [List.append_assoc] at h9; exact h9⟩
theorem U.ixG0 (u : U) : fDG u.d (.int 0) = some (.str u.hd) := by cases u <;> simp only [U.d] <;> rfl
theorem ixG_made1 (w : Str) (ps : List U) : fDG (U.made w ps).d (.int 1) = some (.str w) := by simp only [U.d]; rfl
theorem ixG_made2 (w : Str) (ps : List U) : fDG (U.made w ps).d (.int 2) = some (.tup (ps.map U.d)) := by rw [U.d_made]; rfl
theorem ixG_name1 (x : Str) : fDG (U.name x).d (.int 1) = some (.str x) := by simp only [U.d]; rfl
mutual
theorem U.flat : ∀ u : U, D.flat u.d = true
  | .name x => by simp only [U.d]; rfl
  | .skip => by simp only [U.d]; rfl
  | .made w ps => by simp only [U.d, D.flat, D.flatA, U.flatA ps, Bool.and_self]
theorem U.flatA : ∀ ps : List U, D.flatA (U.dA ps) = true
  | [] => rfl
  | p :: r => by simp only [U.dA, D.flatA, U.flat p, U.flatA r, Bool.and_self]
end
/-! things alike -/
mutual
theorem U.eqv_of : ∀ {u v : U}, PyData.eqv u.p v.p = true → u = v
  | .name x, v, h => by rw [nm_eqv] at h; cases v with
    | name y => simp only [U.isNm, decide_eq_true_eq] at h; rw [h]
    | _ => simp [U.isNm] at h
  | .skip, .name y, h => by simp [U.p, PyData.eqv, PyData.eqvAll] at h
  | .skip, .skip, h => rfl
  | .skip, .made _ _, h => by simp [U.p, PyData.eqv, PyData.eqvAll] at h
  | .made w ps, .name y, h => by simp [U.p, PyData.eqv, PyData.eqvAll] at h
  | .made w ps, .skip, h => by simp [U.p, PyData.eqv, PyData.eqvAll] at h
  | .made w ps, .made w' qs, h => by
    simp only [U.p, PyData.eqv, PyData.eqvAll, Bool.and_true, Bool.and_eq_true] at h
    have e1 : w = w' := by simpa using h.2.1
    rw [e1, U.eqvA_of h.2.2]
theorem U.eqvA_of : ∀ {ps qs : List U}, PyData.eqvAll (U.pA ps) (U.pA qs) = true → ps = qs
  | [], [], _ => rfl
  | [], _ :: _, h => by simp [U.pA, PyData.eqvAll] at h
  | _ :: _, [], h => by simp [U.pA, PyData.eqvAll] at h
  | p :: ps, q :: qs, h => by
    simp only [U.pA, PyData.eqvAll, Bool.and_eq_true] at h
    rw [U.eqv_of h.1, U.eqvA_of h.2]
end
mutual
theorem U.eqv_refl : ∀ u : U, PyData.eqv u.p u.p = true
  | .name x => by rw [nm_eqv]; simp [U.isNm]
  | .skip => by simp [U.p, PyData.eqv, PyData.eqvAll]
  | .made w ps => by simp only [U.p, PyData.eqv, PyData.eqvAll, U.eqvA_refl ps]; simp
theorem U.eqvA_refl : ∀ ps : List U, PyData.eqvAll (U.pA ps) (U.pA ps) = true
  | [] => rfl
  | p :: r => by simp only [U.pA, PyData.eqvAll, U.eqv_refl p, U.eqvA_refl r, Bool.and_self]
end
theorem U.fEq_t {n : Nat} {u : U} (h : U.ok n u) (hn : n ≤ 32) : fEq u.d u.d = some (.bl true) := by
  unfold fEq; rw [U.eqb h h hn, U.eqv_refl]; rfl
theorem U.fEq_f {n : Nat} {u v : U} (h : U.ok n u) (k : U.ok n v) (hn : n ≤ 32) (ne : u ≠ v) : fEq u.d v.d = some (.bl false) := by
  unfold fEq
  rw [U.eqb h k hn]
  cases e : PyData.eqv u.p v.p with
  | true => exact absurd (U.eqv_of e) ne
  | false => rfl
theorem U.fNe_f {n : Nat} {u : U} (h : U.ok n u) (hn : n ≤ 32) : fNe u.d u.d = some (.bl false) := by
  unfold fNe; rw [U.eqb h h hn, U.eqv_refl]; rfl
theorem U.fNe_t {n : Nat} {u v : U} (h : U.ok n u) (k : U.ok n v) (hn : n ≤ 32) (ne : u ≠ v) : fNe u.d v.d = some (.bl true) := by
  unfold fNe
  rw [U.eqb h k hn]
  cases e : PyData.eqv u.p v.p with
  | true => exact absurd (U.eqv_of e) ne
  | false => rfl
/-! stores and dicts -/
theorem get_last {ms : List D} {c : D} {n : Nat} : gS ms.length (n, ms ++ [c]) = some (c, n, ms ++ [c]) := by
  show ((ms ++ [c])[ms.length]?).map _ = _
  rw [List.getElem?_append_right (Nat.le_refl _), Nat.sub_self]; rfl
theorem set_last {ms : List D} {c c' : D} : (ms ++ [c]).set ms.length c' = ms ++ [c'] := by
  rw [List.set_append_right _ _ (Nat.le_refl _), Nat.sub_self]; rfl
abbrev As := List (Str × U)
def dkD (σ : As) : D := .dk (σ.map fun p => .inr p.1) (σ.map fun p => p.2.d)
def lk : As → Str → Option U
  | [], _ => none
  | p :: r, x => if p.1 = x then some p.2 else lk r x
theorem dval_dk (x : Str) : ∀ σ : As, dval (σ.map fun p => Sum.inr p.1) (σ.map fun p => p.2.d) (.inr x) = (lk σ x).map U.d
  | [] => rfl
  | p :: r => by
    show (if (Sum.inr p.1 : Key) = .inr x then some p.2.d else dval (r.map fun p => Sum.inr p.1) (r.map fun p => p.2.d) (.inr x)) = (if p.1 = x then some p.2 else lk r x).map U.d
    by_cases h : p.1 = x
    · rw [if_pos (by rw [h]), if_pos h]; rfl
    · rw [if_neg (fun z => h (Sum.inr.inj z)), if_neg h]; exact dval_dk x r
theorem lk_any (x : Str) : ∀ σ : As, (σ.map fun p => (Sum.inr p.1 : Key)).any (fun k' => decide (k' = .inr x)) = (lk σ x).isSome
  | [] => rfl
  | p :: r => by
    show (decide ((Sum.inr p.1 : Key) = .inr x) || (r.map fun p => (Sum.inr p.1 : Key)).any fun k' => decide (k' = .inr x)) = (if p.1 = x then some p.2 else lk r x).isSome
    rw [lk_any x r]
    by_cases h : p.1 = x
    · rw [decide_eq_true (by rw [h]), if_pos h]; rfl
    · rw [decide_eq_false (fun z => h (Sum.inr.inj z)), if_neg h]; rfl
theorem put_new {σ : As} {x : Str} {u : U} (h : lk σ x = none) : D.dk (putD (σ.map fun p => .inr p.1, σ.map fun p => p.2.d) (.inr x) u.d).1 (putD (σ.map fun p => .inr p.1, σ.map fun p => p.2.d) (.inr x) u.d).2 = dkD (σ ++ [(x, u)]) := by
  unfold putD
  rw [if_neg (by rw [lk_any, h]; decide)]
  unfold dkD
  rw [List.map_append, List.map_append]
  rfl
theorem dk_flat (σ : As) : (dkD σ).flatO = true := by
  show D.flatA (σ.map fun p => p.2.d) = true
  induction σ with
  | nil => rfl
  | cons p r ih => simp only [List.map_cons, D.flatA, U.flat, ih, Bool.and_self]
/-! a comprehension with a test -/
theorem lcM_flt {α : Type} {g : Gd} {tt : Td} {te : Ed} {ρ : Sd} {n : Sx} {f h : α → D} {p : α → Bool} : ∀ (xs : List α), (∀ x ∈ xs, ∃ ρ1, g (f x) ρ = some ρ1 ∧ tt ρ1 n = some (p x, n) ∧ te ρ1 n = some (h x, n)) → lcM g tt te ρ (xs.map f) n = some ((xs.filter p).map h, n)
  | [], _ => rfl
  | x :: r, hx => by
    obtain ⟨ρ1, h1, h2, h3⟩ := hx x (by simp)
    have ih := lcM_flt (g := g) (tt := tt) (te := te) (ρ := ρ) (n := n) (f := f) (h := h) (p := p) r fun y hy => hx y (by simp [hy])
    rw [List.map_cons]
    unfold lcM
    unfold Mb
    rw [h1]
    simp only [Mo, Option.map_some, h2]
    cases c : p x with
    | true =>
      rw [List.filter_cons_of_pos c]
      simp only [if_true, h3, ih, Mp, List.map_cons]
    | false =>
      rw [List.filter_cons_of_neg (by rw [c]; decide)]
      simp only [Bool.false_eq_true, if_false, ih]
/-! xs != [] -/
theorem ne_nil {ds : List D} {ps : List PyData} (hp : D.pyA ds = some ps) (hc : PyData.canLayAll0 ps = true) (hd : PyData.depthAll ps ≤ 60) : fNe (.lst ds) (.lst []) = some (.bl (!ds.isEmpty)) := by
  have e1 : (D.lst ds).py = some (.list ps) := by simp only [D.py, hp, Option.map_some]
  have s1 : SeqAt.shaped (.list ps) = true := by
    have d : (PyData.list ps).depth ≤ 64 := by simp only [PyData.depth]; omega
    have c : (PyData.list ps).canLay0 = true := by simp only [PyData.canLay0]; exact hc
    unfold SeqAt.shaped
    rw [c, decide_eq_true d]; rfl
  have e2 : D.eqb (.lst ds) (.lst []) = some (PyData.eqv (.list ps) (.list [])) := by
    show (match (D.lst ds).py, (D.lst []).py with
      | some p, some q => if SeqAt.shaped p = true ∧ SeqAt.shaped q = true then some (PyData.eqv p q) else none
      | _, _ => none) = _
    rw [e1, show (D.lst []).py = some (.list []) from rfl]
    exact if_pos ⟨s1, by decide +kernel⟩
  unfold fNe
  rw [e2]
  cases ds with
  | nil => cases hp; rfl
  | cons d r =>
    cases ps with
    | nil =>
      exfalso
      simp only [D.pyA] at hp
      split at hp <;> cases hp
    | cons p q => rfl

theorem strs_ok : ∀ xs : List Str, (∀ x ∈ xs, okS x) → ∃ ps, D.pyA (xs.map D.str) = some ps ∧ PyData.canLayAll0 ps = true ∧ PyData.depthAll ps ≤ 60
  | [], _ => ⟨[], rfl, rfl, by simp [PyData.depthAll]⟩
  | x :: r, h => by
    obtain ⟨ps, h1, h2, h3⟩ := strs_ok r fun y hy => h y (by simp [hy])
    have hx : PyData.strOk x = true := h x (by simp)
    refine ⟨.str x :: ps, by simp only [List.map_cons, D.pyA, D.py, h1], by simp only [PyData.canLayAll0, PyData.canLay0, h2, hx]; rfl, ?_⟩
    simp only [PyData.depthAll, PyData.depth]; omega
theorem ne_nilS {xs : List Str} (h : ∀ x ∈ xs, okS x) : fNe (.lst (xs.map D.str)) (.lst []) = some (.bl (!xs.isEmpty)) := by
  obtain ⟨ps, h1, h2, h3⟩ := strs_ok xs h
  rw [ne_nil h1 h2 h3]
  cases xs <;> rfl
/-! new names -/
def nmS (i : Nat) : Str := toString ((i : Int) + 1)
theorem nmS_all : ∀ i : Fin 120, okS (nmS i.val) ∧ (nmS i.val).length ≤ 1000 := by decide +kernel
theorem nmS_nd : ((List.range 120).map nmS).Nodup := by decide +kernel
theorem nmS_ok {i : Nat} (h : i < 120) : okS (nmS i) := (nmS_all ⟨i, h⟩).1
theorem nmS_len {i : Nat} (h : i < 120) : (nmS i).length ≤ 1000 := (nmS_all ⟨i, h⟩).2
theorem nmS_inj {i j : Nat} (hi : i < 120) (hj : j < 120) (h : nmS i = nmS j) : i = j := by
  have e1 : ((List.range 120).map nmS)[i]? = some (nmS i) := by rw [List.getElem?_map, List.getElem?_range hi]; rfl
  have e2 : ((List.range 120).map nmS)[j]? = some (nmS j) := by rw [List.getElem?_map, List.getElem?_range hj]; rfl
  exact (List.getElem?_inj (by simp; omega) nmS_nd).mp (by rw [e1, e2, h])
theorem fStr_nm {i : Nat} (h : i < 120) : fStr (.int ((i : Int) + 1)) = some (.str (nmS i)) := by
  have hl := nmS_len h
  have key : ∀ i : Fin 120, ((i.val : Int) + 1).natAbs.log2 < 1920 := by decide +kernel
  exact if_pos ⟨key ⟨i, h⟩, by show (nmS i).length ≤ sizeLine; rw [PySem.sizeLine_eq]; omega⟩
end Sh

set_option Elab.async false
set_option linter.all false
set_option maxRecDepth 100000
namespace Nf
open PySem PySem.Spec PyProof.Rows L2 He
/-! ### the head's facts with one more test of the written part -/
abbrev AlB : Type := AlD × Bool
def obsB (n : Nat) (fa : List Fa) (fn : List DefD) (ex : PySem.W.Frag → Bool) (g : Addr → Option Obj) : AlB := (obsD fa fn (frG g (asD g n)), ex (frG g (asD g n)))
def hookB (n : Nat) (fa : List Fa) (fn : List DefD) (ex : PySem.W.Frag → Bool) : PySem.W.Hook where
  α := AlB
  obs := fun s => obsB n fa fn ex s.heap.get?
  val := fun _ => (valD fn, true)
  says := fun _ h => ∃ K : PySem.W.Frag, K.In h ∧ (SaysD fa fn K ∧ ex K = true)
  of := fun _ _ e => ⟨_, frG_in, congrArg Prod.fst e, congrArg Prod.snd e⟩
  keeps := fun _ _ _ y k => (let ⟨K, hK, c⟩ := y; ⟨K, PySem.W.Frag.In.keeps hK k, c⟩)
theorem obsB_eq {n : Nat} {fa : List Fa} {fn : List DefD} {ex : PySem.W.Frag → Bool} {g : Addr → Option Obj} {s : Shared} (h : ∀ a, g a = s.heap.get? a) : obsB n fa fn ex g = (hookB n fa fn ex).obs s := by
  have e : g = s.heap.get? := funext h
  subst e
  rfl
end Nf

set_option Elab.async false
set_option linter.all false
set_option maxRecDepth 100000
/-! a module's constants, looked up in the written part -/
namespace Sh
open PySem L2 Nf
mutual
def kV (K : PySem.W.Frag) : D → Value → Bool
  | .non, .none => true
  | .bl b, .bool c => decide (b = c)
  | .int i, .int j _ => decide (i = j)
  | .str x, .str y _ => decide (x = y) && decide (x.length ≤ sizeLine)
  | .tup ds, .ref a => match K.lookup a with
    | some ⟨.type c, _, .seq its _, _⟩ => decide (c = "tuple") && (decide (its.size ≤ sizeLine) && kA K ds its.toList)
    | _ => false
  | _, _ => false
def kA (K : PySem.W.Frag) : List D → List Value → Bool
  | [], [] => true
  | d :: ds, u :: us => kV K d u && kA K ds us
  | _, _ => false
end
mutual
theorem kV_ok {K : PySem.W.Frag} : ∀ {d : D} {u : Value}, kV K d u = true → ∃ v, RelV v u ∧ ∀ dk R, Fz ⟨K, dk⟩ R v d
  | .non, u, h => by
    cases u with
    | none => exact ⟨.non, rfl, fun _ _ => .non⟩
    | _ => simp [kV] at h
  | .bl b, u, h => by
    cases u with
    | bool c =>
      simp only [kV] at h
      have := of_decide_eq_true h; subst this
      exact ⟨.bl b, rfl, fun _ _ => .bl b⟩
    | _ => simp [kV] at h
  | .int i, u, h => by
    cases u with
    | int j t =>
      simp only [kV] at h
      have := of_decide_eq_true h; subst this
      exact ⟨.int i, ⟨t, rfl⟩, fun _ _ => .int i⟩
    | _ => simp [kV] at h
  | .str x, u, h => by
    cases u with
    | str y t =>
      simp only [kV] at h
      obtain ⟨h1, h2⟩ := Bool.and_eq_true_iff.mp h
      have := of_decide_eq_true h1; subst this
      exact ⟨.str x, ⟨t, rfl⟩, fun _ _ => .str x (of_decide_eq_true h2)⟩
    | _ => simp [kV] at h
  | .tup ds, u, h => by
    cases u with
    | ref a =>
      simp only [kV] at h
      cases q : K.lookup a with
      | none => rw [q] at h; cases h
      | some o =>
        obtain ⟨oc, od, dt, osl⟩ := o
        rw [q] at h
        cases oc with
        | type c =>
          cases dt with
          | seq its n =>
            obtain ⟨h1, h2⟩ := Bool.and_eq_true_iff.mp (show (decide (c = "tuple") && (decide (its.size ≤ sizeLine) && kA K ds its.toList)) = true from h)
            obtain ⟨h3, h4⟩ := Bool.and_eq_true_iff.mp h2
            obtain ⟨vs, r, f⟩ := kA_ok h4
            refine ⟨.ref a, rfl, fun dk R => .tup (.inr ⟨_, its, n, q, congrArg Value.type (of_decide_eq_true h1), rfl, of_decide_eq_true h3, r⟩) ?_ (f dk R)⟩
            rw [r.length, Array.length_toList]
            exact of_decide_eq_true h3
          | _ => cases h
        | _ => cases dt <;> cases h
    | _ => simp [kV] at h
  | .lst _, u, h => by cases u <;> simp [kV] at h
  | .dk _ _, u, h => by cases u <;> simp [kV] at h
  | .ins _ _ _, u, h => by cases u <;> simp [kV] at h
  | .deck, u, h => by cases u <;> simp [kV] at h
theorem kA_ok {K : PySem.W.Frag} : ∀ {ds : List D} {us : List Value}, kA K ds us = true → ∃ vs, Vals vs us ∧ ∀ dk R, FzA ⟨K, dk⟩ R vs ds
  | [], [], _ => ⟨[], .nil, fun _ _ => .nil⟩
  | [], _ :: _, h => by simp [kA] at h
  | _ :: _, [], h => by simp [kA] at h
  | d :: ds, u :: us, h => by
    simp only [kA] at h
    obtain ⟨h1, h2⟩ := Bool.and_eq_true_iff.mp h
    obtain ⟨v, r, f⟩ := kV_ok h1
    obtain ⟨vs, rs, fs⟩ := kA_ok h2
    exact ⟨v :: vs, .cons r rs, fun dk R => .cons (f dk R) (fs dk R)⟩
end
def gB (K : PySem.W.Frag) (x : Str) (d : D) : Bool := match PySem.W.nsIn K mainGlobals x with
  | some (some u) => kV K d u
  | _ => false
theorem gB_ok {K : PySem.W.Frag} {h : Heap} {mg : Str → Option Value} {x : Str} {d : D} (X : K.In h) (G : h.Ns mainGlobals mg) (c : gB K x d = true) : GlobD K mg x d := by
  unfold gB at c
  cases e : PySem.W.nsIn K mainGlobals x with
  | none => rw [e] at c; cases c
  | some o =>
    rw [e] at c
    cases o with
    | none => cases c
    | some u =>
      obtain ⟨v, r, f⟩ := kV_ok c
      exact ⟨v, u, PySem.W.mg_of X G e, r, f⟩
end Sh

set_option Elab.async false
set_option linter.all false
set_option maxRecDepth 100000
namespace Sh
open PySem L2 Nf
def top (i : Nat) : Stmt := PySem.Challenge.pw_needfill_k49_covered_fills.main.body.getD i (.Pass ⟨0, 0, 0, 0⟩)
abbrev FnP (K : PySem.W.Frag) (x : Str) (st : Stmt) (f : Addr) (fd : FuncData) : Prop := FunD K x x (defArgs st) (defBody st) (defScope st) [] [] f fd
/-- a def that stands where it is called -/
structure Cal (K : PySem.W.Frag) (mg : Str → Option Value) (x : Str) (st : Stmt) (ps : List Str) (f : Addr) (fd : FuncData) : Prop where
  F : FnP K x st f fd
  m : mg x = some (.ref f)
  b : Binds K fd ps []
/-- the built-ins' names are free -/
structure Bt (mg : Str → Option Value) : Prop where
  t_len : mg "len" = none
  t_abs : mg "abs" = none
  t_range : mg "range" = none
  t_zip : mg "zip" = none
  t_isinstance : mg "isinstance" = none
  t_all : mg "all" = none
  t_tuple : mg "tuple" = none
  t_str : mg "str" = none
  t_int : mg "int" = none
  t_bool : mg "bool" = none
  t_enumerate : mg "enumerate" = none
  t_list : mg "list" = none
  t_dict : mg "dict" = none
  t_any : mg "any" = none
  t_sum : mg "sum" = none
  t_max : mg "max" = none
  t_min : mg "min" = none
end Sh


set_option Elab.async false
set_option linter.all false
set_option maxRecDepth 100000
/-! the deck of the later laws -/
namespace Sh
open PySem L2 Nf
def aG (cs : List Int) (i : Int) : Int := (L2.atI cs i).getD 0
theorem aG_at {cs : List Int} {i : Int} (h0 : 0 ≤ i) (h1 : i < cs.length) : L2.atI (cs.map V.int) i = some (.int (aG cs i)) ∧ aG cs i ∈ cs := by
  have hk : i.toNat < cs.length := by omega
  have e : L2.atI cs i = some cs[i.toNat] := by
    unfold L2.atI ixN
    rw [if_pos h0, if_pos h1]
    exact List.getElem?_eq_getElem hk
  have e2 : aG cs i = cs[i.toNat] := by unfold aG; rw [e]; rfl
  refine ⟨?_, by rw [e2]; exact List.getElem_mem hk⟩
  rw [e2]
  exact at_of (j := i.toNat) (by omega) (by rw [List.getElem?_map, List.getElem?_eq_getElem hk]; rfl)
def prm : List Int := [2147483629, 2147483587, 2147483579, 2147483563, 2147483549, 2147483543, 2147483497]
def nxV (cs : List Int) (m : Nat) (rs : List Int) : Int :=
  if 0 < aG rs ((m : Int) % cs.length) then aG rs ((m : Int) % cs.length) % 1000 else
    ((aG cs ((m : Int) % cs.length) % 2147483647 + 69621 * m + 7919 * (aG cs (((m : Int) % cs.length * ((m : Int) % cs.length) + m + 1) % cs.length) % 1000003) + 91193) ^ (3 : Int).toNat % aG prm ((m : Int) % 7) + 7907 * m) ^ (2 : Int).toNat % 2147483477 / 1009 % 1000
def nxR (cs : List Int) (m : Nat) (rs : List Int) : List Int :=
  if 0 < aG rs ((m : Int) % cs.length) then rs.set ((m : Int) % cs.length).toNat (aG rs ((m : Int) % cs.length) / 1000) else rs
structure DkA (H : Hp) (d g c : Addr) (cs : List Int) (m : Nat) (rs : List Int) : Prop where
  ne1 : d ≠ g
  ne2 : d ≠ c
  ne3 : g ≠ c
  hd : H d = some (.lst [.ref g, .int m, .ref c])
  hg : H g = some (.lst (cs.map V.int))
  hc : H c = some (.lst (rs.map V.int))
  l0 : 0 < cs.length
  l1 : cs.length ≤ 64
  le : rs.length = cs.length
  pos : ∀ x ∈ rs, 0 ≤ x
theorem nxV_range {cs : List Int} {m : Nat} {rs : List Int} : 0 ≤ nxV cs m rs ∧ nxV cs m rs < 1000 := by
  unfold nxV
  split
  · exact mod_range (by decide)
  · exact mod_range (by decide)
theorem nxR_pos {cs : List Int} {m : Nat} {rs : List Int} (h : ∀ x ∈ rs, 0 ≤ x) : ∀ x ∈ nxR cs m rs, 0 ≤ x := by
  unfold nxR
  split
  · intro x hx
    rcases List.mem_or_eq_of_mem_set hx with q | q
    · exact h x q
    · rw [q]; exact Int.ediv_nonneg (Int.le_of_lt (by assumption)) (by decide)
  · exact h
theorem nxR_len {cs : List Int} {m : Nat} {rs : List Int} : (nxR cs m rs).length = rs.length := by
  unfold nxR
  split
  · rw [List.length_set]
  · rfl
section
variable {P : Program} {w : World} {K : PySem.W.Frag} {mg : Str → Option Value} {base : Heap} {a_next a_deck : Addr} {d_next d_deck : FuncData}
abbrev s_next : Stmt := top 7
abbrev N_next : List Str := ["_law_deck_here", "_law_cells", "_law_many", "_law_rest", "_law_at", "_law_figures", "_law_primes", "_law_other", "_law_mixed"]
abbrev P_next : List Str := ["_law_deck_here"]
theorem sc_next : FnScope N_next P_next (defScope s_next) := ⟨rfl, rfl, rfl, by decide +kernel, rfl, by decide +kernel, by decide +kernel⟩
def spNext2 : Sp := fun vs H Q _ => ∃ (d g c : Addr) (cs : List Int) (m : Nat) (rs : List Int), vs = [.ref d] ∧ DkA H d g c cs m rs ∧ m < 2 ^ 40 ∧
  ∀ H', DkA H' d g c cs (m + 1) (nxR cs m rs) → Keep [d, g, c] H H' → Q (.int (nxV cs m rs)) H'
theorem ok_next (T : Bt mg) (C_next : Cal K mg "_law_next" s_next P_next a_next d_next) : FnOk P w K mg base CX0 1 a_next d_next P_next spNext2 := by
  refine C_next.F.ok sc_next (fun vs H Q E h => ?_) (fun cdv A outer s H vs Q E hr h => ?_)
  · obtain ⟨d, g, c, cs, m, rs, rfl, _⟩ := h
    rfl
  obtain ⟨d, g, c, cs, m, rs, rfl, D, hm, q⟩ := h
  refine ⟨_, PSs.nox (pss_cons (ps_asg (pv 0) (pg_lst (by rfl) (pgs_cons (pg_name (i := 1) sc_next.nd rfl (Or.inl rfl)) (pgs_cons (pg_name (i := 2) sc_next.nd rfl (Or.inl rfl)) (pgs_cons (pg_name (i := 3) sc_next.nd rfl (Or.inl rfl)) pgs_nil)))))
    (pss_cons (ps_set (i := 4) sc_next.nd rfl (Or.inl rfl) (pe_op op_mod (pv 2) (pe_callB call_len_seq (by rfl) T.t_len (by decide +kernel) (pa_cons (pv 1) pa_nil))))
    (pss_cons (ps_asg (pe_op op_add (pv 2) pe_int) (pg_sub (pv 0) pe_int set_list))
    (pss_cons (ps_if (pt_cmpR op_gt (pe_ix ix_list (pv 3) (pv 4) (fun _ _ => rfl)) pe_int (nomark _)) (pss_cons (ps_set (i := 5) sc_next.nd rfl (Or.inl rfl) (pe_op op_mod (pe_ix ix_list (pv 3) (pv 4) (fun _ _ => rfl)) pe_int))
    (pss_cons (ps_asg (pe_op op_fdiv (pe_ix ix_list (pv 3) (pv 4) (fun _ _ => rfl)) pe_int) (pg_sub (pv 3) (pv 4) set_list))
    (pss_one (ps_ret (pv 5))))) pss_nil)
    (pss_cons (ps_set (i := 6) sc_next.nd rfl (Or.inl rfl) (pe_lst (pa_cons pe_int (pa_cons pe_int (pa_cons pe_int (pa_cons pe_int (pa_cons pe_int (pa_cons pe_int (pa_cons pe_int pa_nil)))))))))
    (pss_cons (ps_set (i := 7) sc_next.nd rfl (Or.inl rfl) (pe_op op_mod (pe_ix ix_list (pv 1) (pe_op op_mod (pe_op op_add (pe_op op_add (pe_op op_mul (pv 4) (pv 4)) (pv 2)) pe_int) (pe_callB call_len_seq (by rfl) T.t_len (by decide +kernel) (pa_cons (pv 1) pa_nil))) (fun _ _ => rfl)) pe_int))
    (pss_cons (ps_set (i := 8) sc_next.nd rfl (Or.inl rfl) (pe_op op_add (pe_op op_add (pe_op op_add (pe_op op_mod (pe_ix ix_list (pv 1) (pv 4) (fun _ _ => rfl)) pe_int) (pe_op op_mul pe_int (pv 2))) (pe_op op_mul pe_int (pv 7))) pe_int))
    (pss_cons (ps_set (i := 8) sc_next.nd rfl (Or.inl rfl) (pe_op op_mod (pe_op op_pow (pv 8) pe_int) (pe_ix ix_list (pv 6) (pe_op op_mod (pv 2) pe_int) (fun _ _ => rfl))))
    (pss_one (ps_ret (pe_op op_mod (pe_op op_fdiv (pe_op op_mod (pe_op op_pow (pe_op op_add (pv 8) (pe_op op_mul pe_int (pv 2))) pe_int) pe_int) pe_int) pe_int))))))))))), ?_⟩
  have hcl : (0 : Int) < (((cs.map V.int).length : Nat) : Int) := by rw [List.length_map]; have := D.l0; omega
  have hr1 := mod_range (k := (m : Int)) hcl
  refine ⟨_, rfl, d, _, rfl, SqL.of D.hd, rfl, _, _, rfl, _, _, rfl, _, _, rfl, rfl, ?_⟩
  refine ⟨_, rfl, _, rfl, g, _, rfl, .inl (SqL.of D.hg), _, _, rfl, rfl, hcl, ?_⟩
  refine ⟨_, rfl, _, _, rfl, rfl, _, rfl, d, _, _, 1, rfl, rfl, D.hd, rfl, ?_⟩
  have k1 : Keep [d, g, c] H (upd H d (.lst ([V.ref g, .int m, .ref c].set 1 (.int ((m : Int) + 1))))) := (Keep.refl _ _).mut (by simp)
  have h1 : upd H d (.lst ([V.ref g, .int m, .ref c].set 1 (.int ((m : Int) + 1)))) d = some (.lst [.ref g, .int ((m + 1 : Nat) : Int), .ref c]) := upd_same
  have h2 : upd H d (.lst ([V.ref g, .int m, .ref c].set 1 (.int ((m : Int) + 1)))) g = some (.lst (cs.map V.int)) := by rw [upd_ne (Ne.symm D.ne1)]; exact D.hg
  have h3 : upd H d (.lst ([V.ref g, .int m, .ref c].set 1 (.int ((m : Int) + 1)))) c = some (.lst (rs.map V.int)) := by rw [upd_ne (Ne.symm D.ne2)]; exact D.hc
  generalize upd H d (.lst ([V.ref g, .int m, .ref c].set 1 (.int ((m : Int) + 1)))) = H1 at k1 h1 h2 h3
  rw [List.length_map] at hr1 hcl ⊢
  have ir : (m : Int) % ((cs.length : Nat) : Int) < rs.length := by rw [D.le]; exact hr1.2
  obtain ⟨a1, m1⟩ := aG_at hr1.1 ir
  obtain ⟨a2, m2⟩ := aG_at hr1.1 hr1.2
  refine ⟨_, rfl, _, rfl, c, _, _, _, rfl, rfl, SqL.of h3, a1, _, _, rfl, rfl, _, rfl, ?_⟩
  unfold nxV nxR at q
  by_cases hz : 0 < aG rs ((m : Int) % cs.length)
  · rw [if_pos hz, if_pos hz] at q
    refine ifT hz ?_
    refine ⟨_, rfl, _, rfl, c, _, _, _, rfl, rfl, SqL.of h3, a1, _, _, rfl, rfl, by show (0 : Int) < 1000; decide, ?_⟩
    refine ⟨_, rfl, _, rfl, c, _, _, _, rfl, rfl, SqL.of h3, a1, _, _, rfl, rfl, ⟨by decide, by decide⟩, _, rfl, _, rfl, c, _, _, ((m : Int) % cs.length).toNat, rfl, rfl, h3, ?_, ?_⟩
    · unfold ixN
      rw [if_pos hr1.1, if_pos (by rw [List.length_map]; exact ir)]
    · refine ⟨_, rfl, q _ ⟨D.ne1, D.ne2, D.ne3, ?_, ?_, ?_, D.l0, D.l1, by rw [List.length_set]; exact D.le, ?_⟩ (k1.mut (by simp))⟩
      · rw [upd_ne D.ne2]; exact h1
      · rw [upd_ne D.ne3]; exact h2
      · rw [upd_same, List.map_set]
      · have := nxR_pos (cs := cs) (m := m) D.pos
        unfold nxR at this
        rwa [if_pos hz] at this
  · rw [if_neg hz, if_neg hz] at q
    refine ifF hz ?_
    refine ⟨by show 7 ≤ sizeLine; decide, fun p hp => ?_⟩
    have k2 := k1.new hp (o := .lst (prm.map V.int))
    have n1 : d ≠ p := ne_of_none h1 hp
    have n2 : g ≠ p := ne_of_none h2 hp
    have n3 : c ≠ p := ne_of_none h3 hp
    have h1' : upd H1 p (.lst (prm.map V.int)) d = some (.lst [.ref g, .int ((m + 1 : Nat) : Int), .ref c]) := by rw [upd_ne n1]; exact h1
    have h2' : upd H1 p (.lst (prm.map V.int)) g = some (.lst (cs.map V.int)) := by rw [upd_ne n2]; exact h2
    have h3' : upd H1 p (.lst (prm.map V.int)) c = some (.lst (rs.map V.int)) := by rw [upd_ne n3]; exact h3
    have hp' : upd H1 p (.lst (prm.map V.int)) p = some (.lst (prm.map V.int)) := upd_same
    show _
    generalize hH : upd H1 p (.lst (prm.map V.int)) = H2 at k2 h1' h2' h3' hp'
    have hH' : upd H1 p (.lst [V.int 2147483629, .int 2147483587, .int 2147483579, .int 2147483563, .int 2147483549, .int 2147483543, .int 2147483497]) = H2 := hH
    rw [hH']
    have hat : ((m : Int) % cs.length) < 64 := by have := hr1.2; have := D.l1; omega
    have hr2 := mod_range (k := (m : Int) % cs.length * ((m : Int) % cs.length) + m + 1) hcl
    obtain ⟨a3, m3⟩ := aG_at (cs := cs) hr2.1 hr2.2
    have hr7 := mod_range (k := (m : Int)) (m := 7) (by decide)
    obtain ⟨a4, m4⟩ := aG_at (cs := prm) (i := (m : Int) % 7) hr7.1 (by show (m : Int) % 7 < 7; exact hr7.2)
    have hp4 : 2147483497 ≤ aG prm ((m : Int) % 7) ∧ aG prm ((m : Int) % 7) ≤ 2147483629 := by
      revert m4
      generalize aG prm ((m : Int) % 7) = z
      intro m4
      simp only [prm, List.mem_cons, List.not_mem_nil, or_false] at m4
      omega
    have b1 := mod_range (k := aG cs ((m : Int) % cs.length)) (m := 2147483647) (by decide)
    have b2 := mod_range (k := aG cs (((m : Int) % cs.length * ((m : Int) % cs.length) + m + 1) % cs.length)) (m := 1000003) (by decide)
    refine ⟨_, rfl, _, rfl, _, rfl, _, _, rfl, rfl, .inl ⟨by omega, by omega⟩, _, rfl, _, _, rfl, rfl, _, _, rfl, rfl, _, rfl, g, _, rfl, .inl (SqL.of h2'), _, _, rfl, rfl, by rw [List.length_map]; exact hcl, g, _, _, _, rfl, rfl, SqL.of h2', by rw [List.length_map]; exact a3, _, _, rfl, rfl, by show (0 : Int) < 1000003; decide, ?_⟩
    refine ⟨_, rfl, _, rfl, g, _, _, _, rfl, rfl, SqL.of h2', a2, _, _, rfl, rfl, by show (0 : Int) < 2147483647; decide, _, rfl, _, _, rfl, rfl, .inl ⟨by decide, by decide⟩, _, _, rfl, rfl, _, rfl, _, _, rfl, rfl, .inl ⟨by decide, by decide⟩, _, _, rfl, rfl, _, _, rfl, rfl, ?_⟩
    refine ⟨_, rfl, _, _, rfl, rfl, ⟨by decide, by decide, ?_⟩, _, rfl, _, rfl, _, _, rfl, rfl, by show (0 : Int) < 7; decide, p, _, _, _, rfl, rfl, SqL.of hp', a4, _, _, rfl, rfl, by omega, ?_⟩
    · revert b1 b2
      generalize aG cs ((m : Int) % cs.length) % 2147483647 = x
      generalize aG cs (((m : Int) % cs.length * ((m : Int) % cs.length) + m + 1) % cs.length) % 1000003 = y
      intro b1 b2
      omega
    · have b3 := mod_range (k := (aG cs ((m : Int) % cs.length) % 2147483647 + 69621 * m + 7919 * (aG cs (((m : Int) % cs.length * ((m : Int) % cs.length) + m + 1) % cs.length) % 1000003) + 91193) ^ (3 : Int).toNat) (m := aG prm ((m : Int) % 7)) (by omega)
      refine ⟨_, rfl, _, rfl, _, _, rfl, rfl, .inl ⟨by decide, by decide⟩, _, _, rfl, rfl, _, _, rfl, rfl, ⟨by decide, by decide, ?_⟩, _, _, rfl, rfl, by show (0 : Int) < 2147483477; decide, _, _, rfl, rfl, ⟨by decide, by decide⟩, _, _, rfl, rfl, by show (0 : Int) < 1000; decide, ?_⟩
      · revert b3
        generalize (aG cs ((m : Int) % cs.length) % 2147483647 + 69621 * m + 7919 * (aG cs (((m : Int) % cs.length * ((m : Int) % cs.length) + m + 1) % cs.length) % 1000003) + 91193) ^ (3 : Int).toNat % aG prm ((m : Int) % 7) = x
        intro b3
        omega
      · exact q _ ⟨D.ne1, D.ne2, D.ne3, h1', h2', h3', D.l0, D.l1, D.le, D.pos⟩ k2
end
end Sh


set_option Elab.async false
set_option linter.all false
set_option maxRecDepth 100000
namespace Sh
open PySem L2 Nf
/-! the deck as a world -/
def stp (cs rs0 : List Int) : Nat → List Int
  | 0 => rs0
  | n + 1 => nxR cs n (stp cs rs0 n)
def strm (cs rs0 : List Int) (n : Nat) : Int := nxV cs n (stp cs rs0 n)
theorem strm_range (cs rs0 : List Int) (n : Nat) : 0 ≤ strm cs rs0 n ∧ strm cs rs0 n < 1000 := nxV_range
def Wdk (d g c : Addr) (cs rs0 : List Int) : Wd where
  dom := [d, g, c]
  st := fun n H => DkA H d g c cs n (stp cs rs0 n)
  only := fun n H H' D e => ⟨D.ne1, D.ne2, D.ne3, (e d (by simp)).trans D.hd, (e g (by simp)).trans D.hg, (e c (by simp)).trans D.hc, D.l0, D.l1, D.le, D.pos⟩
  there := fun n H D a m => by
    simp only [List.mem_cons, List.not_mem_nil, or_false] at m
    rcases m with rfl | rfl | rfl
    · rw [D.hd]; exact fun z => nomatch z
    · rw [D.hg]; exact fun z => nomatch z
    · rw [D.hc]; exact fun z => nomatch z
def nxS (f : Nat → Int) : List D → M D
  | [.deck], n => if n.1 < 2 ^ 40 then some (.int (f n.1), n.1 + 1, n.2) else none
  | _, _ => none
section
variable {P : Program} {w : World} {K : PySem.W.Frag} {mg : Str → Option Value} {base : Heap} {a_next a_deck : Addr} {d_next d_deck : FuncData}
theorem ok_nextM {d g c : Addr} {cs rs0 : List Int} (G : FnOk P w K mg base CX0 1 a_next d_next P_next spNext2) : FnOk P w K mg base CX0 1 a_next d_next P_next (spM ⟨K, d⟩ (Wdk d g c cs rs0) (nxS (strm cs rs0))) :=
  G.imp fun vs H Q E ⟨R, ds, r, n, n', f, hp, e, q⟩ => by
    match ds, e with
    | [.deck], e =>
      obtain ⟨hn, e⟩ := ite_some e
      cases e
      obtain ⟨v, rfl, z⟩ := fzA1 f
      cases z
      refine ⟨d, g, c, cs, n.1, stp cs rs0 n.1, rfl, hp.wd, hn, fun H' D' k => ?_⟩
      have kk : ∀ a o, R a ≠ none → H a = some o → H' a = some o := fun a o e h => k a o h fun m => e (hp.dj a m)
      refine q _ R H' ⟨⟨fun a o e nu => kk a o (by rw [e]; exact fun z => nomatch z) (hp.same.st _ _ e nu), fun a j e => ?_⟩, hp.dj, hp.d0, D', KeepM.of k, Same.refl _, fun a e => .inl e, hp.m.go (Same.refl _) (fun _ _ e => e) fun a j o e h => kk a o (by rw [e]; exact fun z => nomatch z) h⟩ (.int _)
      cases h : H a with
      | none => exact absurd h (hp.same.th a j e)
      | some o => rw [kk a o (by rw [e]; exact fun z => nomatch z) h]; exact fun z => nomatch z
abbrev s_deck : Stmt := top 6
abbrev N_deck : List Str := ["_law_script", "_law_cells", "_law_cell"]
abbrev P_deck : List Str := ["_law_script"]
theorem sc_deck : FnScope N_deck P_deck (defScope s_deck) := ⟨rfl, rfl, rfl, by decide +kernel, rfl, by decide +kernel, by decide +kernel⟩
def spDeck2 (K : PySem.W.Frag) : Sp := fun vs H Q _ => ∃ (a : Addr) (ns : List Int), vs = [.ref a] ∧ SqL K H a (ns.map V.int) ∧ ns.length ≤ 63 ∧
  ∀ d g c cs rs H', DkA H' d g c cs 0 rs → Same H H' → H d = none → H g = none → H c = none → Q (.ref d) H'
theorem ok_deck (T : Bt mg) (C_deck : Cal K mg "_law_deck" s_deck P_deck a_deck d_deck) : FnOk P w K mg base CX0 1 a_deck d_deck P_deck (spDeck2 K) := by
  refine C_deck.F.ok sc_deck (fun vs H Q E h => ?_) (fun cdv A outer s H vs Q E hr h => ?_)
  · obtain ⟨a, ns, rfl, _⟩ := h
    rfl
  obtain ⟨a, ns, rfl, hS, h63, q⟩ := h
  refine ⟨_, PSs.nox (pss_cons (ps_set (i := 1) sc_deck.nd rfl (Or.inl rfl) (pe_op op_cat (pe_lc (own := [("_law_cell", 2)]) (g := gName 2) (tt := tYes) (by rfl) sc_deck.nd (pi_list (pe_slice sl_list (pv 0) po_none (po_some pe_int))) (blkOk_by (own := [("_law_cell", 2)]) (N := N_deck) (sc := defScope s_deck) (by decide +kernel)) (fun _ _ _ _ _ => (pg_name (i := 2) sc_deck.nd rfl (Or.inl rfl))) (fun _ _ _ _ _ => pts_nil) (fun _ _ _ _ _ => (pe_callB call_abs (by rfl) T.t_abs (by decide +kernel) (pa_cons (pv 2) pa_nil)))) (pe_op op_rep (pe_lst (pa_cons pe_int pa_nil)) (pe_callTy call_int1 (by rfl) T.t_int (by decide +kernel) (pa_cons (pe_cmpR op_eq (pe_callB call_len_seq (by rfl) T.t_len (by decide +kernel) (pa_cons (pv 0) pa_nil)) pe_int (nomark _)) pa_nil)))))
    (pss_one (ps_ret (pe_lst (pa_cons (pv 1) (pa_cons pe_int (pa_cons (pe_lc (own := [("_law_cell", 2)]) (g := gName 2) (tt := tYes) (by rfl) sc_deck.nd (pi_list (pv 1)) (blkOk_by (own := [("_law_cell", 2)]) (N := N_deck) (sc := defScope s_deck) (by decide +kernel)) (fun _ _ _ _ _ => (pg_name (i := 2) sc_deck.nd rfl (Or.inl rfl))) (fun _ _ _ _ _ => pts_nil) (fun _ _ _ _ _ => (pe_op op_mul (pv 2) (pe_callTy call_int1 (by rfl) T.t_int (by decide +kernel) (pa_cons (pe_cmpR op_ge (pv 2) (pe_op op_pow pe_int pe_int) (nomark _)) pa_nil))))) pa_nil))))))), ?_⟩
  have hl : (ns.map V.int).length = ns.length := List.length_map _
  refine ⟨_, rfl, _, rfl, a, _, rfl, hS, fun p hp => ?_⟩
  have ecut : cutV (ns.map V.int) none (some 63) = ns.map V.int := by
    show ((ns.map V.int).drop 0).take ((HT.sIx (ns.map V.int).length (ns.map V.int).length (some ((63 : Nat) : Int))) - 0) = _
    rw [HT.sIx_nat, hl, List.drop_zero, Nat.sub_zero, Nat.min_eq_right h63]
    exact List.take_of_length_le (by rw [hl]; exact Nat.le_refl _)
  rw [ecut]
  have S1 := same_new hp (.lst (ns.map V.int))
  have e1 : upd H p (.lst (ns.map V.int)) p = some (.lst (ns.map V.int)) := upd_same
  generalize upd H p (.lst (ns.map V.int)) = H1 at S1 e1
  refine ⟨p, rfl, ⟨_, SqL.of e1⟩, fun Z hZ => ?_⟩
  have hZ0 : H Z = none := S1.free hZ
  refine lc_list (xs := ns.map V.int) (fun i H2 => Same H1 H2 ∧ H2 Z = some (.lst (((ns.map fun n => if n < 0 then -n else n).take i).map V.int))) ?_ ?_ ?_ ?_
  · exact ⟨same_new hZ _, upd_same⟩
  · rintro i H2 _ ⟨S2, _⟩
    exact SqL.of (S2 _ _ e1)
  · rintro i x H2 hx ⟨S2, e2⟩
    rw [List.getElem?_map] at hx
    obtain ⟨n, hn, rfl⟩ := Option.map_eq_some_iff.mp hx
    have hi : i < ns.length := (List.getElem?_eq_some_iff.mp hn).1
    refine ⟨rfl, yes_if ?_⟩
    refine ⟨_, rfl, n, rfl, _, e2, ?_, S2.mutN hZ, ?_⟩
    · rw [List.length_map, List.length_take]
      have : ns.length ≤ 63 := h63
      rw [PySem.sizeLine_eq]; omega
    · rw [upd_same, List.take_add_one, List.getElem?_map, hn, List.map_append]
      rfl
  · rintro H2 ⟨S2, e2⟩
    rw [hl, List.take_of_length_le (by rw [List.length_map]; exact Nat.le_refl _)] at e2
    have S02 := S1.trans S2
    refine ⟨by show 1 ≤ sizeLine; decide, fun p2 hp2 => ?_⟩
    have S3 := S02.new hp2 (o := .lst [.int 0])
    have e3 := same_new hp2 (.lst [V.int 0]) _ _ e2
    have e4 : upd H2 p2 (.lst [.int 0]) p2 = some (.lst [.int 0]) := upd_same
    generalize upd H2 p2 (.lst [V.int 0]) = H3 at S3 e3 e4
    refine ⟨_, rfl, a, _, rfl, .inl (S3.seq hS), rfl, .inr ⟨_, rfl, p2, _, _, rfl, rfl, e4, ?_, ?_, ?_, fun p3 hp3 => ?_⟩⟩
    · split <;> decide
    · split <;> decide
    · split <;> decide
    · have S4 := S3.new hp3 (o := .lst (List.replicate (if decide (V.int ((ns.map V.int).length : Nat) = V.int 0) = true then (1 : Int) else 0).toNat [V.int 0]).flatten)
      have e5 := same_new hp3 (.lst (List.replicate (if decide (V.int ((ns.map V.int).length : Nat) = V.int 0) = true then (1 : Int) else 0).toNat [V.int 0]).flatten) _ _ e3
      obtain ⟨zs, hzs, hz0, hzl⟩ : ∃ zs : List Int, (List.replicate (if decide (V.int ((ns.map V.int).length : Nat) = V.int 0) = true then (1 : Int) else 0).toNat [V.int 0]).flatten = zs.map V.int ∧ (∀ x ∈ zs, 0 ≤ x) ∧ zs.length ≤ 1 ∧ 0 < ((ns.map fun n => if n < 0 then -n else n) ++ zs).length := by
        by_cases hn : ns.length = 0
        · refine ⟨[0], ?_, by simp, by simp, by simp⟩
          rw [if_pos (by rw [hl, hn]; decide)]; rfl
        · refine ⟨[], ?_, by simp, by simp, by simp; omega⟩
          rw [if_neg (fun z => by have z2 := V.int.inj (of_decide_eq_true z); rw [hl] at z2; omega)]; rfl
      rw [hzs] at S4 e5 ⊢
      have e6 : upd H3 p3 (.lst (zs.map V.int)) p3 = some (.lst (zs.map V.int)) := upd_same
      generalize upd H3 p3 (.lst (zs.map V.int)) = H4 at S4 e5 e6
      refine ⟨Z, p3, _, _, rfl, rfl, e5, e6, ?_, fun p4 hp4 => ?_⟩
      · simp only [List.length_map]
        rw [PySem.sizeLine_eq]; have := hzl.1; omega
      · rw [← List.map_append]
        have hcs : ((ns.map fun n => if n < 0 then -n else n) ++ zs).length ≤ 64 := by
          rw [List.length_append, List.length_map]; have := hzl.1; omega
        have hpos : ∀ x ∈ (ns.map fun n => if n < 0 then -n else n) ++ zs, 0 ≤ x := fun x hx => by
          rcases List.mem_append.mp hx with hx | hx
          · obtain ⟨n, _, rfl⟩ := List.mem_map.mp hx
            show 0 ≤ (if n < 0 then -n else n)
            split <;> omega
          · exact hz0 x hx
        have hlen := hzl.2
        generalize (ns.map fun n => if n < 0 then -n else n) ++ zs = cs at hcs hpos hlen
        have S5 := S4.new hp4 (o := .lst (cs.map V.int))
        have e7 : upd H4 p4 (.lst (cs.map V.int)) p4 = some (.lst (cs.map V.int)) := upd_same
        have hp40 : H p4 = none := S4.free hp4
        generalize upd H4 p4 (.lst (cs.map V.int)) = H5 at S5 e7
        refine ⟨_, rfl, _, rfl, p4, rfl, ⟨_, SqL.of e7⟩, fun Y hY => ?_⟩
        have hY0 : H Y = none := S5.free hY
        have hYp : p4 ≠ Y := ne_of_none e7 hY
        refine lc_list (xs := cs.map V.int) (fun i H2 => Same H5 H2 ∧ H2 Y = some (.lst (((cs.map fun n => n * (if decide ((10 : Int) ^ (18 : Int).toNat ≤ n) = true then 1 else 0)).take i).map V.int))) ?_ ?_ ?_ ?_
        · exact ⟨same_new hY _, upd_same⟩
        · rintro i H2 _ ⟨S2, _⟩
          exact SqL.of (S2 _ _ e7)
        · rintro i x H6 hx ⟨S6, e8⟩
          rw [List.getElem?_map] at hx
          obtain ⟨n, hn, rfl⟩ := Option.map_eq_some_iff.mp hx
          have hi : i < cs.length := (List.getElem?_eq_some_iff.mp hn).1
          refine ⟨rfl, yes_if ?_⟩
          refine ⟨_, rfl, _, rfl, _, _, rfl, rfl, ⟨by decide, by decide, by decide⟩, _, _, rfl, rfl, .inr ⟨_, rfl, _, _, rfl, rfl, .inr ?_, _, e8, ?_, S6.mutN hY, ?_⟩⟩
          · split <;> decide
          · rw [List.length_map, List.length_take, PySem.sizeLine_eq]; omega
          · rw [upd_same, List.take_add_one, List.getElem?_map, hn, List.map_append]
            rfl
        · rintro H6 ⟨S6, e8⟩
          rw [List.length_map, List.take_of_length_le (by rw [List.length_map]; exact Nat.le_refl _)] at e8
          refine ⟨by show 3 ≤ sizeLine; decide, fun d hd => ?_⟩
          have e9 := S6 _ _ e7
          have nd1 : d ≠ p4 := (ne_of_none e9 hd).symm
          have nd2 : d ≠ Y := (ne_of_none e8 hd).symm
          refine q d p4 Y cs _ _ ⟨nd1, nd2, hYp, upd_same, by rw [upd_ne (Ne.symm nd1)]; exact e9, by rw [upd_ne (Ne.symm nd2)]; exact e8, hlen, hcs, List.length_map _, ?_⟩ ((S5.trans S6).new hd) ((S5.trans S6).free hd) hp40 hY0
          intro x hx
          obtain ⟨n, hn, rfl⟩ := List.mem_map.mp hx
          exact Int.mul_nonneg (hpos n hn) (by split <;> decide)
end
end Sh


set_option Elab.async false
set_option linter.all false
set_option maxRecDepth 100000
namespace Sh
open PySem L2 Nf
variable {P : Program} {w : World} {K : PySem.W.Frag} {mg : Str → Option Value} {base : Heap} {dk : Addr} {W : Wd}
abbrev s_fitted : Stmt := top 1
abbrev N_fitted : List Str := ["pattern", "thing", "fills", "waiting", "due", "given", "pairs"]
abbrev P_fitted : List Str := ["pattern", "thing"]
theorem sc_fitted : FnScope N_fitted P_fitted (defScope s_fitted) := ⟨rfl, rfl, rfl, by decide +kernel, rfl, by decide +kernel, by decide +kernel⟩
def l1_fitted : Bd :=
  (bSeq (sPop 3 (gT (gsC (gN 4) (gsC (gN 5) gsN))))
  (sIf (trB (e2 fEq (e2 fDG (eVar 4) (eC (.int 0))) (eC (.str ("name" : Str))))) (sApp 2 (eTup (aCons (e2 fDG (eVar 4) (eC (.int 1))) (aCons (eVar 5) aNil)))) (sIf (tAn (trB (e2 fEq (e2 fDG (eVar 5) (eC (.int 0))) (eC (.str ("made" : Str))))) (tAn (trB (e2 fEq (e2 fDG (eVar 5) (eC (.int 1))) (e2 fDG (eVar 4) (eC (.int 1))))) (trB (e2 fEq (eF (f1 fLen) (aCons (e2 fDG (eVar 5) (eC (.int 2))) aNil)) (eF (f1 fLen) (aCons (e2 fDG (eVar 4) (eC (.int 2))) aNil)))))) (bSeq (sSet 6 (e2 fLZ (e2 fDG (eVar 4) (eC (.int 2))) (e2 fDG (eVar 5) (eC (.int 2)))))
  (sExt 3 (e1 fRev (eVar 6)))) (sRet (eC .non)))))
def b_fitted : Bd :=
  (bSeq (sSet 2 (eLst aNil))
  (bSeq (sSet 3 (eLst (aCons (eTup (aCons (eVar 0) (aCons (eVar 1) aNil))) aNil)))
  (bSeq (sWh (trB (eVar 3)) (l1_fitted))
  (sRet (eF (f1 fTupD) (aCons (eVar 2) aNil))))))
theorem ok_fitted {k : Nat} {a_fitted : Addr} {d_fitted : FuncData} (T : Bt mg) (C_fitted : Cal K mg "fitted" s_fitted P_fitted a_fitted d_fitted) :
    FnOk P w K mg base CX0 (k + 1) a_fitted d_fitted P_fitted (spM ⟨K, dk⟩ W (fnA 2 7 (b_fitted))) :=
  fn_ok [2, 3] C_fitted.F sc_fitted rfl fun cdv A outer s H E R hr =>
    (db_cons (ds_setO (i := 2) sc_fitted.nd rfl (Or.inl rfl) (do_lst da_nil aNil_len))
    (db_cons (ds_setO (i := 3) sc_fitted.nd rfl (Or.inl rfl) (do_lst (da_cons (d_tup (da_cons (d_var (pv 0)) (da_cons (d_var (pv 1)) da_nil)) (aCons_len (aCons_len aNil_len))) da_nil) (aCons_len aNil_len)))
    (db_cons (ds_wh (dt_open (dt_tr (d_var (pv 3)))) (db_cons (ds_pop (pv 3) (dg_tup (dgs_cons (dg_name (pg_name (i := 4) sc_fitted.nd rfl (Or.inl rfl))) (dgs_cons (dg_name (pg_name (i := 5) sc_fitted.nd rfl (Or.inl rfl))) dgs_nil))))
    (db_one (ds_if (dt_eq hr.units (d_ixD hr.units (d_var (pv 4)) d_int) d_str) (db_one (ds_app (pv 2) (d_tup (da_cons (d_ixD hr.units (d_var (pv 4)) d_int) (da_cons (d_var (pv 5)) da_nil)) (aCons_len (aCons_len aNil_len))))) (db_one (ds_if (dw_pt (dw_and (dt_eq hr.units (d_ixD hr.units (d_var (pv 5)) d_int) d_str) (dw_and (dt_eq hr.units (d_ixD hr.units (d_var (pv 5)) d_int) (d_ixD hr.units (d_var (pv 4)) d_int)) (dw_and1 (dt_eq hr.units (d_callB call_len (c_len rfl) (by rfl) T.t_len (by decide +kernel) (da_cons (d_ixD hr.units (d_var (pv 5)) d_int) da_nil)) (d_callB call_len (c_len rfl) (by rfl) T.t_len (by decide +kernel) (da_cons (d_ixD hr.units (d_var (pv 4)) d_int) da_nil))))))) (db_cons (ds_set (i := 6) sc_fitted.nd rfl (Or.inl rfl) (d_lz (d_ixD hr.units (d_var (pv 4)) d_int) (d_ixD hr.units (d_var (pv 5)) d_int) (by rfl) T.t_list (by rfl) T.t_zip))
    (db_one (ds_ext (pv 3) (d_rev (d_var (pv 6)))))) (db_one (ds_ret d_non))))))))
    (db_one (ds_ret (d_callT (call_tuple_of.or (call_tup_dR rfl)) (c_tupD rfl) (by rfl) T.t_tuple (by decide +kernel) (da_cons (d_var (pv 2)) da_nil)))))))
abbrev s_is_covered : Stmt := top 4
abbrev N_is_covered : List Str := ["thing", "plain", "known", "found", "name", "part"]
abbrev P_is_covered : List Str := ["thing", "plain", "known"]
theorem sc_is_covered : FnScope N_is_covered P_is_covered (defScope s_is_covered) := ⟨rfl, rfl, rfl, by decide +kernel, rfl, by decide +kernel, by decide +kernel⟩
def l1_is_covered : Bd :=
  (sIf (trB (e2 fNe (eSd (eVar 2) (eVar 4) (eVar 5)) (eVar 5))) (sRet (eC (.bl false))) bNil)
def b_is_covered (c_fitted : List D → M D) : Bd :=
  (bSeq (sSet 3 (eCall c_fitted (aCons (eVar 0) (aCons (eVar 1) aNil))))
  (bSeq (sIf (trB (e2 fIs (eVar 3) (eC .non))) (sRet (eC (.bl false))) bNil)
  (bSeq (sFor (iSeq (eVar 3)) (gT (gsC (gN 4) (gsC (gN 5) gsN))) (l1_is_covered))
  (sRet (eC (.bl true))))))
theorem ok_is_covered {k : Nat} {a_is_covered : Addr} {d_is_covered : FuncData} {a_fitted : Addr} {d_fitted : FuncData} {c_fitted : List D → M D} (T : Bt mg) (C_is_covered : Cal K mg "is_covered" s_is_covered P_is_covered a_is_covered d_is_covered) (C_fitted : Cal K mg "fitted" s_fitted P_fitted a_fitted d_fitted) (G_fitted : FnOk P w K mg base CX0 k a_fitted d_fitted P_fitted (spM ⟨K, dk⟩ W c_fitted)) :
    FnOk P w K mg base CX0 (k + 1) a_is_covered d_is_covered P_is_covered (spM ⟨K, dk⟩ W (fnA 3 6 (b_is_covered c_fitted))) :=
  fn_ok [] C_is_covered.F sc_is_covered rfl fun cdv A outer s H E R hr =>
    (db_cons (ds_set (i := 3) sc_is_covered.nd rfl (Or.inl rfl) (d_call G_fitted (hr.mono (by omega)) (by rfl) C_fitted.m C_fitted.F.kp C_fitted.b (da_cons (d_var (pv 0)) (da_cons (d_var (pv 1)) da_nil))))
    (db_cons (ds_if (dt_is (d_var (pv 3)) d_non) (db_one (ds_ret d_bl)) db_nil)
    (db_cons (ds_for (di_seq (d_var (pv 3))) (dg_tup (dgs_cons (dg_name (pg_name (i := 4) sc_is_covered.nd rfl (Or.inl rfl))) (dgs_cons (dg_name (pg_name (i := 5) sc_is_covered.nd rfl (Or.inl rfl))) dgs_nil))) (db_one (ds_if (dt_ne hr.units (d_setd (d_var (pv 2)) (d_var (pv 4)) (d_var (pv 5))) (d_var (pv 5))) (db_one (ds_ret d_bl)) db_nil)))
    (db_one (ds_ret d_bl)))))
abbrev s_covers : Stmt := top 3
abbrev N_covers : List Str := ["answer", "fills", "value", "known", "given", "name", "thing"]
abbrev P_covers : List Str := ["answer", "fills", "value"]
theorem sc_covers : FnScope N_covers P_covers (defScope s_covers) := ⟨rfl, rfl, rfl, by decide +kernel, rfl, by decide +kernel, by decide +kernel⟩
def l1_covers (c_is_covered : List D → M D) : Bd :=
  (sIf (tOr' (trB (e2 fNotInD (eVar 5) (eVar 4))) (tNt (trB (eCall c_is_covered (aCons (eVar 6) (aCons (e2 fDG (eVar 4) (eVar 5)) (aCons (eVar 3) aNil))))))) (sRet (eC .non)) bNil)
def b_covers (c_is_covered : List D → M D) : Bd :=
  (bSeq (sSet 3 (eShr (eC (.dk [] []))))
  (bSeq (sSet 4 (eDc (iSeq (eVar 1)) (gT (gsC (gN 5) (gsC (gN 6) gsN))) tY (eVar 5) (eVar 6) [5, 6]))
  (bSeq (sFor (iSeq (e2 fDG (eVar 0) (eC (.int 0)))) (gT (gsC (gN 5) (gsC (gN 6) gsN))) (l1_covers c_is_covered))
  (sRet (vIf (trB (eCall c_is_covered (aCons (e2 fDG (eVar 0) (eC (.int 1))) (aCons (eVar 2) (aCons (eVar 3) aNil))))) (eItT (eVar 3)) (eC .non))))))
theorem ok_covers {k : Nat} {a_covers : Addr} {d_covers : FuncData} {a_is_covered : Addr} {d_is_covered : FuncData} {c_is_covered : List D → M D} (T : Bt mg) (C_covers : Cal K mg "covers" s_covers P_covers a_covers d_covers) (C_is_covered : Cal K mg "is_covered" s_is_covered P_is_covered a_is_covered d_is_covered) (G_is_covered : FnOk P w K mg base CX0 k a_is_covered d_is_covered P_is_covered (spM ⟨K, dk⟩ W c_is_covered)) :
    FnOk P w K mg base CX0 (k + 1) a_covers d_covers P_covers (spM ⟨K, dk⟩ W (fnA 3 7 (b_covers c_is_covered))) :=
  fn_ok [] C_covers.F sc_covers rfl fun cdv A outer s H E R hr =>
    (db_cons (ds_set (i := 3) sc_covers.nd rfl (Or.inl rfl) (d_shr do_dict0))
    (db_cons (ds_setDc (i := 4) (own := [("name", 5), ("thing", 6)]) sc_covers.nd rfl rfl (sw_trueD rfl rfl rfl (by decide +kernel)) (di_seq (d_var (pv 1))) (blkOk_by (own := [("name", 5), ("thing", 6)]) (N := N_covers) (sc := defScope s_covers) (by decide +kernel)) (fun _ _ _ _ _ => (dg_tup (dgs_cons (dg_name (pg_name (i := 5) sc_covers.nd rfl (Or.inl rfl))) (dgs_cons (dg_name (pg_name (i := 6) sc_covers.nd rfl (Or.inl rfl))) dgs_nil)))) (fun _ _ _ _ _ => dts_nil) (fun _ _ _ _ _ => (d_var (pv 5))) (fun _ _ _ _ _ => (d_var (pv 6))))
    (db_cons (ds_for (di_seq (d_ixD hr.units (d_var (pv 0)) d_int)) (dg_tup (dgs_cons (dg_name (pg_name (i := 5) sc_covers.nd rfl (Or.inl rfl))) (dgs_cons (dg_name (pg_name (i := 6) sc_covers.nd rfl (Or.inl rfl))) dgs_nil))) (db_one (ds_if (dw_pt (dw_or (dt_notinD hr.units (d_var (pv 5)) (d_var (pv 4))) (dw_or1 (dt_not (dt_tr (d_call G_is_covered (hr.mono (by omega)) (by rfl) C_is_covered.m C_is_covered.F.kp C_is_covered.b (da_cons (d_var (pv 6)) (da_cons (d_ixD hr.units (d_var (pv 4)) (d_var (pv 5))) (da_cons (d_var (pv 3)) da_nil))))))))) (db_one (ds_ret d_non)) db_nil)))
    (db_one (ds_ret (d_if (dt_tr (d_call G_is_covered (hr.mono (by omega)) (by rfl) C_is_covered.m C_is_covered.F.kp C_is_covered.b (da_cons (d_ixD hr.units (d_var (pv 0)) d_int) (da_cons (d_var (pv 2)) (da_cons (d_var (pv 3)) da_nil))))) (d_itT (by rfl) T.t_tuple (d_var (pv 3))) d_non))))))
abbrev s_word : Stmt := top 8
abbrev N_word : List Str := ["_law_sort", "_law_base", "_law_number", "_law_letters", "_law_more"]
abbrev P_word : List Str := ["_law_sort", "_law_base", "_law_number"]
theorem sc_word : FnScope N_word P_word (defScope s_word) := ⟨rfl, rfl, rfl, by decide +kernel, rfl, by decide +kernel, by decide +kernel⟩
def b_word : Bd :=
  (bSeq (sSet 3 (eC (.str ("abcdefghijklmnopqrstuvwxyz" : Str))))
  (bSeq (sSet 4 (e2 fMul (e2 fDG (eVar 3) (e2 fMod (e2 fDiv (eVar 1) (eC (.int 26))) (eC (.int 26)))) (e2 fMod (e2 fMul (eVar 2) (eVar 1)) (eC (.int 3)))))
  (sRet (e2 fAdd (e2 fAdd (eVar 0) (e2 fDG (eVar 3) (e2 fMod (e2 fAdd (eVar 1) (e2 fMul (eC (.int 5)) (eVar 2))) (eC (.int 26))))) (eVar 4)))))
theorem ok_word {k : Nat} {a_word : Addr} {d_word : FuncData} (T : Bt mg) (C_word : Cal K mg "_law_word" s_word P_word a_word d_word) :
    FnOk P w K mg base CX0 (k + 1) a_word d_word P_word (spM ⟨K, dk⟩ W (fnA 3 5 (b_word))) :=
  fn_ok [] C_word.F sc_word rfl fun cdv A outer s H E R hr =>
    (db_cons (ds_set (i := 3) sc_word.nd rfl (Or.inl rfl) d_str)
    (db_cons (ds_set (i := 4) sc_word.nd rfl (Or.inl rfl) (d_mul (d_ixD hr.units (d_var (pv 3)) (d_mod (d_div (d_var (pv 1)) d_int) d_int)) (d_mod (d_mul (d_var (pv 2)) (d_var (pv 1))) d_int)))
    (db_one (ds_ret (d_add (d_add (d_var (pv 0)) (d_ixD hr.units (d_var (pv 3)) (d_mod (d_add (d_var (pv 1)) (d_mul d_int (d_var (pv 2)))) d_int))) (d_var (pv 4)))))))
abbrev s_kinds : Stmt := top 9
abbrev N_kinds : List Str := ["_law_deck_here", "_law_number", "_law_base", "_law_kinds_here", "_law_found", "_law_many", "_law_kind", "_law_makers_here", "_law_draw", "_law_at", "_law_parts", "_law_part", "_law_other"]
abbrev P_kinds : List Str := ["_law_deck_here"]
theorem sc_kinds : FnScope N_kinds P_kinds (defScope s_kinds) := ⟨rfl, rfl, rfl, by decide +kernel, rfl, by decide +kernel, by decide +kernel⟩
def l1_kinds (c_next : List D → M D) : Bd :=
  (bSeq (sSet 12 (eCall c_next (aCons (eVar 0) aNil)))
  (sApp 10 (e2 fDG (e2 fAdd (e2 fAdd (eLst (aCons (eVar 6) (aCons (eVar 6) aNil))) (eVar 3)) (eLst (aCons (eC (.str ("truth" : Str))) aNil))) (e2 fMod (eVar 12) (e2 fAdd (eF (f1 fLen) (aCons (eVar 3) aNil)) (eC (.int 3)))))))
def l2_kinds (c_next : List D → M D) (c_word : List D → M D) : Bd :=
  (bSeq (sSet 10 (eLst aNil))
  (bSeq (sFor (i1 fR1 (e2 fMul (e2 fDG (eLst (aCons (eC (.int 0)) (aCons (eC (.int 1)) (aCons (eC (.int 1)) (aCons (eC (.int 2)) (aCons (eC (.int 2)) (aCons (eC (.int 3)) aNil))))))) (e2 fMod (eCall c_next (aCons (eVar 0) aNil)) (eC (.int 6)))) (eF (f1 fInt) (aCons (e2 fGt (eVar 9) (eC (.int 0))) aNil)))) (gN 11) (l1_kinds c_next))
  (bSeq (sApp 7 (eFl (eTup (aCons (eCall c_word (aCons (eC (.str ("m" : Str))) (aCons (eVar 2) (aCons (eVar 5) aNil)))) (aCons (eF (f1 fTupD) (aCons (eVar 10) aNil)) aNil)))))
  (sSet 5 (e2 fAdd (eVar 5) (eC (.int 1)))))))
def l3_kinds (c_next : List D → M D) (c_word : List D → M D) : Bd :=
  (bSeq (sSet 7 (eLst aNil))
  (bSeq (sSet 8 (eCall c_next (aCons (eVar 0) aNil)))
  (bSeq (sFor (i1 fR1 (e2 fDG (eLst (aCons (eC (.int 2)) (aCons (eC (.int 2)) (aCons (eC (.int 3)) (aCons (eC (.int 3)) (aCons (eC (.int 1)) (aCons (eC (.int 2)) aNil))))))) (e2 fMod (eVar 8) (eC (.int 6))))) (gN 9) (l2_kinds c_next c_word))
  (sApp 4 (eFl (eTup (aCons (eVar 6) (aCons (eF (f1 fTupD) (aCons (eVar 7) aNil)) aNil))))))))
def b_kinds (c_word : List D → M D) (c_next : List D → M D) : Bd :=
  (bSeq (sSet 1 (eCall c_next (aCons (eVar 0) aNil)))
  (bSeq (sSet 2 (eCall c_next (aCons (eVar 0) aNil)))
  (bSeq (sSet 3 (eLc (i1 fR1 (e2 fAdd (eC (.int 1)) (e2 fMod (eVar 1) (eC (.int 3))))) (gN 9) tY (eCall c_word (aCons (eC (.str ("k" : Str))) (aCons (eVar 2) (aCons (eVar 9) aNil)))) [9]))
  (bSeq (sSet 4 (eLst aNil))
  (bSeq (sSet 5 (eC (.int 0)))
  (bSeq (sFor (iSeq (eVar 3)) (gN 6) (l3_kinds c_next c_word))
  (sRet (eF (f1 fTupD) (aCons (eVar 4) aNil)))))))))
theorem ok_kinds {k : Nat} {a_kinds : Addr} {d_kinds : FuncData} {a_word : Addr} {d_word : FuncData} {c_word : List D → M D} {a_next : Addr} {d_next : FuncData} {c_next : List D → M D} (T : Bt mg) (C_kinds : Cal K mg "_law_kinds" s_kinds P_kinds a_kinds d_kinds) (C_word : Cal K mg "_law_word" s_word P_word a_word d_word) (G_word : FnOk P w K mg base CX0 k a_word d_word P_word (spM ⟨K, dk⟩ W c_word)) (C_next : Cal K mg "_law_next" s_next P_next a_next d_next) (G_next : FnOk P w K mg base CX0 k a_next d_next P_next (spM ⟨K, dk⟩ W c_next)) :
    FnOk P w K mg base CX0 (k + 1) a_kinds d_kinds P_kinds (spM ⟨K, dk⟩ W (fnA 1 13 (b_kinds c_word c_next))) :=
  fn_ok [4, 7, 10] C_kinds.F sc_kinds rfl fun cdv A outer s H E R hr =>
    (db_cons (ds_set (i := 1) sc_kinds.nd rfl (Or.inl rfl) (d_call G_next (hr.mono (by omega)) (by rfl) C_next.m C_next.F.kp C_next.b (da_cons (d_var (pv 0)) da_nil)))
    (db_cons (ds_set (i := 2) sc_kinds.nd rfl (Or.inr rfl) (d_call G_next (hr.mono (by omega)) (by rfl) C_next.m C_next.F.kp C_next.b (da_cons (d_var (pv 0)) da_nil)))
    (db_cons (ds_setLc (i := 3) (own := [("_law_at", 9)]) sc_kinds.nd rfl rfl (sw_true rfl rfl rfl (by decide +kernel)) (di_r1 (d_add d_int (d_mod (d_var (pv 1)) d_int)) (by rfl) T.t_range) (blkOk_by (own := [("_law_at", 9)]) (N := N_kinds) (sc := defScope s_kinds) (by decide +kernel)) (fun _ _ _ _ _ => (dg_name (pg_name (i := 9) sc_kinds.nd rfl (Or.inl rfl)))) (fun _ _ _ _ _ => dts_nil) (fun _ _ _ _ _ => (d_call G_word (hr.mono (by omega)) (by rfl) C_word.m C_word.F.kp C_word.b (da_cons d_str (da_cons (d_var (pv 2)) (da_cons (d_var (pv 9)) da_nil))))))
    (db_cons (ds_setO (i := 4) sc_kinds.nd rfl (Or.inl rfl) (do_lst da_nil aNil_len))
    (db_cons (ds_set (i := 5) sc_kinds.nd rfl (Or.inl rfl) d_int)
    (db_cons (ds_for (di_seq (d_var (pv 3))) (dg_name (pg_name (i := 6) sc_kinds.nd rfl (Or.inl rfl))) (db_cons (ds_setO (i := 7) sc_kinds.nd rfl (Or.inl rfl) (do_lst da_nil aNil_len))
    (db_cons (ds_set (i := 8) sc_kinds.nd rfl (Or.inl rfl) (d_call G_next (hr.mono (by omega)) (by rfl) C_next.m C_next.F.kp C_next.b (da_cons (d_var (pv 0)) da_nil)))
    (db_cons (ds_for (di_r1 (d_ixD hr.units (d_lst (da_cons d_int (da_cons d_int (da_cons d_int (da_cons d_int (da_cons d_int (da_cons d_int da_nil)))))) (aCons_len (aCons_len (aCons_len (aCons_len (aCons_len (aCons_len aNil_len))))))) (d_mod (d_var (pv 8)) d_int)) (by rfl) T.t_range) (dg_name (pg_name (i := 9) sc_kinds.nd rfl (Or.inl rfl))) (db_cons (ds_setO (i := 10) sc_kinds.nd rfl (Or.inl rfl) (do_lst da_nil aNil_len))
    (db_cons (ds_for (di_r1 (d_mul (d_ixD hr.units (d_lst (da_cons d_int (da_cons d_int (da_cons d_int (da_cons d_int (da_cons d_int (da_cons d_int da_nil)))))) (aCons_len (aCons_len (aCons_len (aCons_len (aCons_len (aCons_len aNil_len))))))) (d_mod (d_call G_next (hr.mono (by omega)) (by rfl) C_next.m C_next.F.kp C_next.b (da_cons (d_var (pv 0)) da_nil)) d_int)) (d_callT call_int1 c_int (by rfl) T.t_int (by decide +kernel) (da_cons (d_gt (d_var (pv 9)) d_int) da_nil))) (by rfl) T.t_range) (dg_name (pg_name (i := 11) sc_kinds.nd rfl (Or.inl rfl))) (db_cons (ds_set (i := 12) sc_kinds.nd rfl (Or.inl rfl) (d_call G_next (hr.mono (by omega)) (by rfl) C_next.m C_next.F.kp C_next.b (da_cons (d_var (pv 0)) da_nil)))
    (db_one (ds_app (pv 10) (d_ixD hr.units (d_add (d_add (d_lst (da_cons (d_var (pv 6)) (da_cons (d_var (pv 6)) da_nil)) (aCons_len (aCons_len aNil_len))) (d_var (pv 3))) (d_lst (da_cons d_str da_nil) (aCons_len aNil_len))) (d_mod (d_var (pv 12)) (d_add (d_callB call_len (c_len rfl) (by rfl) T.t_len (by decide +kernel) (da_cons (d_var (pv 3)) da_nil)) d_int)))))))
    (db_cons (ds_app (pv 7) (d_open (d_tup (da_cons (d_call G_word (hr.mono (by omega)) (by rfl) C_word.m C_word.F.kp C_word.b (da_cons d_str (da_cons (d_var (pv 2)) (da_cons (d_var (pv 5)) da_nil)))) (da_cons (d_callT (call_tuple_of.or (call_tup_dR rfl)) (c_tupD rfl) (by rfl) T.t_tuple (by decide +kernel) (da_cons (d_var (pv 10)) da_nil)) da_nil)) (aCons_len (aCons_len aNil_len)))))
    (db_one (ds_set (i := 5) sc_kinds.nd rfl (Or.inl rfl) (d_add (d_var (pv 5)) d_int)))))))
    (db_one (ds_app (pv 4) (d_open (d_tup (da_cons (d_var (pv 6)) (da_cons (d_callT (call_tuple_of.or (call_tup_dR rfl)) (c_tupD rfl) (by rfl) T.t_tuple (by decide +kernel) (da_cons (d_var (pv 7)) da_nil)) da_nil)) (aCons_len (aCons_len aNil_len))))))))))
    (db_one (ds_ret (d_callT (call_tuple_of.or (call_tup_dR rfl)) (c_tupD rfl) (by rfl) T.t_tuple (by decide +kernel) (da_cons (d_var (pv 4)) da_nil))))))))))
abbrev s_makers : Stmt := top 10
abbrev N_makers : List Str := ["_law_kinds_here", "_law_kind", "_law_name", "_law_makers_here"]
abbrev P_makers : List Str := ["_law_kinds_here", "_law_kind"]
theorem sc_makers : FnScope N_makers P_makers (defScope s_makers) := ⟨rfl, rfl, rfl, by decide +kernel, rfl, by decide +kernel, by decide +kernel⟩
def l1_makers : Bd :=
  (sIf (trB (e2 fEq (eVar 2) (eVar 1))) (sRet (eVar 3)) bNil)
def b_makers : Bd :=
  (bSeq (sFor (iSeq (eVar 0)) (gT (gsC (gN 2) (gsC (gN 3) gsN))) (l1_makers))
  (sRet (eTup (aCons (eTup (aCons (eC (.str ("yes" : Str))) (aCons (eTup aNil) aNil))) (aCons (eTup (aCons (eC (.str ("no" : Str))) (aCons (eTup aNil) aNil))) aNil)))))
theorem ok_makers {k : Nat} {a_makers : Addr} {d_makers : FuncData} (T : Bt mg) (C_makers : Cal K mg "_law_makers" s_makers P_makers a_makers d_makers) :
    FnOk P w K mg base CX0 (k + 1) a_makers d_makers P_makers (spM ⟨K, dk⟩ W (fnA 2 4 (b_makers))) :=
  fn_ok [] C_makers.F sc_makers rfl fun cdv A outer s H E R hr =>
    (db_cons (ds_for (di_seq (d_var (pv 0))) (dg_tup (dgs_cons (dg_name (pg_name (i := 2) sc_makers.nd rfl (Or.inl rfl))) (dgs_cons (dg_name (pg_name (i := 3) sc_makers.nd rfl (Or.inl rfl))) dgs_nil))) (db_one (ds_if (dt_eq hr.units (d_var (pv 2)) (d_var (pv 1))) (db_one (ds_ret (d_var (pv 3)))) db_nil)))
    (db_one (ds_ret (d_tup (da_cons (d_tup (da_cons d_str (da_cons (d_tup da_nil aNil_len) da_nil)) (aCons_len (aCons_len aNil_len))) (da_cons (d_tup (da_cons d_str (da_cons (d_tup da_nil aNil_len) da_nil)) (aCons_len (aCons_len aNil_len))) da_nil)) (aCons_len (aCons_len aNil_len))))))
abbrev s_plain : Stmt := top 11
abbrev N_plain : List Str := ["_law_deck_here", "_law_kinds_here", "_law_kind", "_law_far", "_law_makers_here", "_law_number", "_law_maker", "_law_parts", "_law_part"]
abbrev P_plain : List Str := ["_law_deck_here", "_law_kinds_here", "_law_kind", "_law_far"]
theorem sc_plain : FnScope N_plain P_plain (defScope s_plain) := ⟨rfl, rfl, rfl, by decide +kernel, rfl, by decide +kernel, by decide +kernel⟩
def b_plain (c_plain : List D → M D) (c_next : List D → M D) (c_makers : List D → M D) : Bd :=
  (bSeq (sSet 4 (eCall c_makers (aCons (eVar 1) (aCons (eVar 2) aNil))))
  (bSeq (sSet 5 (eCall c_next (aCons (eVar 0) aNil)))
  (bSeq (sAsg (e2 fDG (eVar 4) (e2 fMod (eVar 5) (eF (f1 fLen) (aCons (eVar 4) aNil)))) (gT (gsC (gN 6) (gsC (gN 7) gsN))))
  (bSeq (sIf (trB (e2 fEq (eVar 3) (eC (.int 0)))) (sAsg (e2 fDG (eVar 4) (eC (.int 0))) (gT (gsC (gN 6) (gsC (gN 7) gsN)))) bNil)
  (sRet (eTup (aCons (eC (.str ("made" : Str))) (aCons (eVar 6) (aCons (eF (f1 fTupD) (aCons (eLc (iSeq (eVar 7)) (gN 8) tY (eCall c_plain (aCons (eVar 0) (aCons (eVar 1) (aCons (eVar 8) (aCons (eF (f2 fMax2) (aCons (eC (.int 0)) (aCons (e2 fSub (eVar 3) (eC (.int 1))) aNil))) aNil))))) [8]) aNil)) aNil)))))))))
theorem ok_plain {k : Nat} {a_plain : Addr} {d_plain : FuncData} {a_next : Addr} {d_next : FuncData} {c_next : List D → M D} {a_makers : Addr} {d_makers : FuncData} {c_makers : List D → M D} {c_plain : List D → M D} (T : Bt mg) (C_plain : Cal K mg "_law_plain" s_plain P_plain a_plain d_plain) (G_plain : FnOk P w K mg base CX0 k a_plain d_plain P_plain (spM ⟨K, dk⟩ W c_plain)) (C_next : Cal K mg "_law_next" s_next P_next a_next d_next) (G_next : FnOk P w K mg base CX0 k a_next d_next P_next (spM ⟨K, dk⟩ W c_next)) (C_makers : Cal K mg "_law_makers" s_makers P_makers a_makers d_makers) (G_makers : FnOk P w K mg base CX0 k a_makers d_makers P_makers (spM ⟨K, dk⟩ W c_makers)) :
    FnOk P w K mg base CX0 (k + 1) a_plain d_plain P_plain (spM ⟨K, dk⟩ W (fnA 4 9 (b_plain c_plain c_next c_makers))) :=
  fn_ok [] C_plain.F sc_plain rfl fun cdv A outer s H E R hr =>
    (db_cons (ds_set (i := 4) sc_plain.nd rfl (Or.inl rfl) (d_call G_makers (hr.mono (by omega)) (by rfl) C_makers.m C_makers.F.kp C_makers.b (da_cons (d_var (pv 1)) (da_cons (d_var (pv 2)) da_nil))))
    (db_cons (ds_set (i := 5) sc_plain.nd rfl (Or.inl rfl) (d_call G_next (hr.mono (by omega)) (by rfl) C_next.m C_next.F.kp C_next.b (da_cons (d_var (pv 0)) da_nil)))
    (db_cons (ds_asg (d_ixD hr.units (d_var (pv 4)) (d_mod (d_var (pv 5)) (d_callB call_len (c_len rfl) (by rfl) T.t_len (by decide +kernel) (da_cons (d_var (pv 4)) da_nil)))) (dg_tup (dgs_cons (dg_name (pg_name (i := 6) sc_plain.nd rfl (Or.inl rfl))) (dgs_cons (dg_name (pg_name (i := 7) sc_plain.nd rfl (Or.inl rfl))) dgs_nil))))
    (db_cons (ds_if (dt_eq hr.units (d_var (pv 3)) d_int) (db_one (ds_asg (d_ixD hr.units (d_var (pv 4)) d_int) (dg_tup (dgs_cons (dg_name (pg_name (i := 6) sc_plain.nd rfl (Or.inl rfl))) (dgs_cons (dg_name (pg_name (i := 7) sc_plain.nd rfl (Or.inl rfl))) dgs_nil))))) db_nil)
    (db_one (ds_ret (d_tup (da_cons d_str (da_cons (d_var (pv 6)) (da_cons (d_callT (call_tuple_of.or (call_tup_dR rfl)) (c_tupD rfl) (by rfl) T.t_tuple (by decide +kernel) (da_cons (d_lc (own := [("_law_part", 8)]) sc_plain.nd (di_seq (d_var (pv 7))) (blkOk_by (own := [("_law_part", 8)]) (N := N_plain) (sc := defScope s_plain) (by decide +kernel)) (fun _ _ _ _ _ => (dg_name (pg_name (i := 8) sc_plain.nd rfl (Or.inl rfl)))) (fun _ _ _ _ _ => dts_nil) (fun _ _ _ _ _ => (d_call G_plain (hr.mono (by omega)) (by rfl) C_plain.m C_plain.F.kp C_plain.b (da_cons (d_var (pv 0)) (da_cons (d_var (pv 1)) (da_cons (d_var (pv 8)) (da_cons (d_callB (call_max2 rfl) c_max2 (by rfl) T.t_max (by decide +kernel) (da_cons d_int (da_cons (d_sub (d_var (pv 3)) d_int) da_nil))) da_nil))))))) da_nil)) da_nil))) (aCons_len (aCons_len (aCons_len aNil_len))))))))))
abbrev s_filled : Stmt := top 12
abbrev N_filled : List Str := ["_law_saying", "_law_fills", "_law_name", "_law_thing", "_law_part"]
abbrev P_filled : List Str := ["_law_saying", "_law_fills"]
theorem sc_filled : FnScope N_filled P_filled (defScope s_filled) := ⟨rfl, rfl, rfl, by decide +kernel, rfl, by decide +kernel, by decide +kernel⟩
def l1_filled : Bd :=
  (sIf (trB (e2 fEq (eVar 2) (e2 fDG (eVar 0) (eC (.int 1))))) (sRet (eVar 3)) bNil)
def b_filled (c_filled : List D → M D) : Bd :=
  (bSeq (sIf (trB (e2 fEq (e2 fDG (eVar 0) (eC (.int 0))) (eC (.str ("name" : Str))))) (bSeq (sFor (iSeq (eVar 1)) (gT (gsC (gN 2) (gsC (gN 3) gsN))) (l1_filled))
  (sRet (eVar 0))) bNil)
  (bSeq (sIf (tOr' (trB (e2 fEq (e2 fDG (eVar 0) (eC (.int 0))) (eC (.str ("made" : Str))))) (trB (e2 fEq (e2 fDG (eVar 0) (eC (.int 0))) (eC (.str ("call" : Str)))))) (sRet (eTup (aCons (e2 fDG (eVar 0) (eC (.int 0))) (aCons (e2 fDG (eVar 0) (eC (.int 1))) (aCons (eF (f1 fTupD) (aCons (eLc (iSeq (e2 fDG (eVar 0) (eC (.int 2)))) (gN 4) tY (eCall c_filled (aCons (eVar 4) (aCons (eVar 1) aNil))) [4]) aNil)) aNil))))) bNil)
  (sRet (e2 fAdd (eSl (eVar 0) (fun _ => Mp none) (pSome (eC (.int 1)))) (eF (f1 fTupD) (aCons (eLc (iSeq (eSl (eVar 0) (pSome (eC (.int 1))) (fun _ => Mp none))) (gN 4) tY (eCall c_filled (aCons (eVar 4) (aCons (eVar 1) aNil))) [4]) aNil))))))
theorem ok_filled {k : Nat} {a_filled : Addr} {d_filled : FuncData} {c_filled : List D → M D} (T : Bt mg) (C_filled : Cal K mg "_law_filled" s_filled P_filled a_filled d_filled) (G_filled : FnOk P w K mg base CX0 k a_filled d_filled P_filled (spM ⟨K, dk⟩ W c_filled)) :
    FnOk P w K mg base CX0 (k + 1) a_filled d_filled P_filled (spM ⟨K, dk⟩ W (fnA 2 5 (b_filled c_filled))) :=
  fn_ok [] C_filled.F sc_filled rfl fun cdv A outer s H E R hr =>
    (db_cons (ds_if (dt_eq hr.units (d_ixD hr.units (d_var (pv 0)) d_int) d_str) (db_cons (ds_for (di_seq (d_var (pv 1))) (dg_tup (dgs_cons (dg_name (pg_name (i := 2) sc_filled.nd rfl (Or.inl rfl))) (dgs_cons (dg_name (pg_name (i := 3) sc_filled.nd rfl (Or.inl rfl))) dgs_nil))) (db_one (ds_if (dt_eq hr.units (d_var (pv 2)) (d_ixD hr.units (d_var (pv 0)) d_int)) (db_one (ds_ret (d_var (pv 3)))) db_nil)))
    (db_one (ds_ret (d_var (pv 0))))) db_nil)
    (db_cons (ds_if (dw_pt (dw_or (dt_eq hr.units (d_ixD hr.units (d_var (pv 0)) d_int) d_str) (dw_or1 (dt_eq hr.units (d_ixD hr.units (d_var (pv 0)) d_int) d_str)))) (db_one (ds_ret (d_tup (da_cons (d_ixD hr.units (d_var (pv 0)) d_int) (da_cons (d_ixD hr.units (d_var (pv 0)) d_int) (da_cons (d_callT (call_tuple_of.or (call_tup_dR rfl)) (c_tupD rfl) (by rfl) T.t_tuple (by decide +kernel) (da_cons (d_lc (own := [("_law_part", 4)]) sc_filled.nd (di_seq (d_ixD hr.units (d_var (pv 0)) d_int)) (blkOk_by (own := [("_law_part", 4)]) (N := N_filled) (sc := defScope s_filled) (by decide +kernel)) (fun _ _ _ _ _ => (dg_name (pg_name (i := 4) sc_filled.nd rfl (Or.inl rfl)))) (fun _ _ _ _ _ => dts_nil) (fun _ _ _ _ _ => (d_call G_filled (hr.mono (by omega)) (by rfl) C_filled.m C_filled.F.kp C_filled.b (da_cons (d_var (pv 4)) (da_cons (d_var (pv 1)) da_nil))))) da_nil)) da_nil))) (aCons_len (aCons_len (aCons_len aNil_len)))))) db_nil)
    (db_one (ds_ret (d_add (d_sl (d_var (pv 0)) dp_none (dp_some d_int)) (d_callT (call_tuple_of.or (call_tup_dR rfl)) (c_tupD rfl) (by rfl) T.t_tuple (by decide +kernel) (da_cons (d_lc (own := [("_law_part", 4)]) sc_filled.nd (di_seq (d_sl (d_var (pv 0)) (dp_some d_int) dp_none)) (blkOk_by (own := [("_law_part", 4)]) (N := N_filled) (sc := defScope s_filled) (by decide +kernel)) (fun _ _ _ _ _ => (dg_name (pg_name (i := 4) sc_filled.nd rfl (Or.inl rfl)))) (fun _ _ _ _ _ => dts_nil) (fun _ _ _ _ _ => (d_call G_filled (hr.mono (by omega)) (by rfl) C_filled.m C_filled.F.kp C_filled.b (da_cons (d_var (pv 4)) (da_cons (d_var (pv 1)) da_nil))))) da_nil)))))))
abbrev s_same : Stmt := top 13
abbrev N_same : List Str := ["_law_found", "_law_due_here", "_law_one", "_law_other"]
abbrev P_same : List Str := ["_law_found", "_law_due_here"]
theorem sc_same : FnScope N_same P_same (defScope s_same) := ⟨rfl, rfl, rfl, by decide +kernel, rfl, by decide +kernel, by decide +kernel⟩
def b_same (c_same : List D → M D) : Bd :=
  (bSeq (sIf (trB (e1 (fIsi "tuple") (eVar 1))) (bSeq (sIf (tOr' (tNt (trB (e1 (fIsi "tuple") (eVar 0)))) (trB (e2 fNe (eF (f1 fLen) (aCons (eVar 0) aNil)) (eF (f1 fLen) (aCons (eVar 1) aNil))))) (sRet (eC (.bl false))) bNil)
  (sRet (eF (f1 fAll) (aCons (eLc (i2 fZip (eVar 0) (eVar 1)) (gT (gsC (gN 2) (gsC (gN 3) gsN))) tY (eCall c_same (aCons (eVar 2) (aCons (eVar 3) aNil))) [2, 3]) aNil)))) bNil)
  (bSeq (sIf (trB (e2 fIs (eVar 1) (eC .non))) (sRet (e2 fIs (eVar 0) (eC .non))) bNil)
  (bSeq (sIf (trB (e1 (fIsi "str") (eVar 1))) (sRet (vAn (e1 (fIsi "str") (eVar 0)) (e2 fEq (eVar 0) (eVar 1)))) bNil)
  (sRet (vAn (e1 (fIsi "int") (eVar 0)) (vAn (e1 fNot (e1 (fIsi "bool") (eVar 0))) (e2 fEq (eVar 0) (eVar 1))))))))
theorem ok_same {k : Nat} {a_same : Addr} {d_same : FuncData} {c_same : List D → M D} (T : Bt mg) (C_same : Cal K mg "_law_same" s_same P_same a_same d_same) (G_same : FnOk P w K mg base CX0 k a_same d_same P_same (spM ⟨K, dk⟩ W c_same)) :
    FnOk P w K mg base CX0 (k + 1) a_same d_same P_same (spM ⟨K, dk⟩ W (fnA 2 4 (b_same c_same))) :=
  fn_ok [] C_same.F sc_same rfl fun cdv A outer s H E R hr =>
    (db_cons (ds_if (dt_tr (d_isi (d_var (pv 1)) (pe_bltn (v := .ty "tuple") (by rfl) T.t_tuple (by decide +kernel) rfl) (by rfl) T.t_isinstance)) (db_cons (ds_if (dw_pt (dw_or (dt_not (dt_tr (d_isi (d_var (pv 0)) (pe_bltn (v := .ty "tuple") (by rfl) T.t_tuple (by decide +kernel) rfl) (by rfl) T.t_isinstance))) (dw_or1 (dt_ne hr.units (d_callB call_len (c_len rfl) (by rfl) T.t_len (by decide +kernel) (da_cons (d_var (pv 0)) da_nil)) (d_callB call_len (c_len rfl) (by rfl) T.t_len (by decide +kernel) (da_cons (d_var (pv 1)) da_nil)))))) (db_one (ds_ret d_bl)) db_nil)
    (db_one (ds_ret (d_callB (cr_all rfl) c_all (by rfl) T.t_all (by decide +kernel) (da_cons (d_lc (own := [("_law_one", 2), ("_law_other", 3)]) sc_same.nd (di_zip (d_var (pv 0)) (d_var (pv 1)) (by rfl) T.t_zip) (blkOk_by (own := [("_law_one", 2), ("_law_other", 3)]) (N := N_same) (sc := defScope s_same) (by decide +kernel)) (fun _ _ _ _ _ => (dg_tup (dgs_cons (dg_name (pg_name (i := 2) sc_same.nd rfl (Or.inl rfl))) (dgs_cons (dg_name (pg_name (i := 3) sc_same.nd rfl (Or.inl rfl))) dgs_nil)))) (fun _ _ _ _ _ => dts_nil) (fun _ _ _ _ _ => (d_call G_same (hr.mono (by omega)) (by rfl) C_same.m C_same.F.kp C_same.b (da_cons (d_var (pv 2)) (da_cons (d_var (pv 3)) da_nil))))) da_nil))))) db_nil)
    (db_cons (ds_if (dt_is (d_var (pv 1)) d_non) (db_one (ds_ret (d_is (d_var (pv 0)) d_non))) db_nil)
    (db_cons (ds_if (dt_tr (d_isi (d_var (pv 1)) (pe_bltn (v := .ty "str") (by rfl) T.t_str (by decide +kernel) rfl) (by rfl) T.t_isinstance)) (db_one (ds_ret (d_and (d_isi (d_var (pv 0)) (pe_bltn (v := .ty "str") (by rfl) T.t_str (by decide +kernel) rfl) (by rfl) T.t_isinstance) (d_one (d_eq hr.units (d_var (pv 0)) (d_var (pv 1))))))) db_nil)
    (db_one (ds_ret (d_and (d_isi (d_var (pv 0)) (pe_bltn (v := .ty "int") (by rfl) T.t_int (by decide +kernel) rfl) (by rfl) T.t_isinstance) (d_and (d_not (d_isi (d_var (pv 0)) (pe_bltn (v := .ty "bool") (by rfl) T.t_bool (by decide +kernel) rfl) (by rfl) T.t_isinstance)) (d_one (d_eq hr.units (d_var (pv 0)) (d_var (pv 1)))))))))))
abbrev s_open : Stmt := top 14
abbrev N_open : List Str := ["_law_deck_here", "_law_kinds_here", "_law_kind", "_law_far", "_law_known", "_law_number", "_law_old", "_law_makers_here", "_law_maker", "_law_parts", "_law_at", "_law_part"]
abbrev P_open : List Str := ["_law_deck_here", "_law_kinds_here", "_law_kind", "_law_far", "_law_known"]
theorem sc_open : FnScope N_open P_open (defScope s_open) := ⟨rfl, rfl, rfl, by decide +kernel, rfl, by decide +kernel, by decide +kernel⟩
def b_open (c_open : List D → M D) (c_makers : List D → M D) (c_next : List D → M D) : Bd :=
  (bSeq (sSet 5 (eCall c_next (aCons (eVar 0) aNil)))
  (bSeq (sSet 6 (eLc (i1 fR1 (e1S fLenD (eVar 4))) (gN 10) (trB (e2 fEq (e2S fDG (eVar 4) (eVar 10)) (eVar 2))) (eF (f1 fStr) (aCons (e2 fAdd (eVar 10) (eC (.int 1))) aNil)) [10]))
  (bSeq (sIf (tOr' (trB (e2 fEq (e2 fMod (eVar 5) (eC (.int 3))) (eC (.int 0)))) (tAn (trB (e2 fEq (eVar 3) (eC (.int 0)))) (trB (e2 fEq (e2 fMod (eVar 5) (eC (.int 2))) (eC (.int 0)))))) (bSeq (sIf (tAn (trB (e2 fNe (eVar 6) (eLst aNil))) (trB (e2 fGt (e2 fMod (e2 fDiv (eVar 5) (eC (.int 6))) (eC (.int 3))) (eC (.int 0))))) (sRet (eTup (aCons (eC (.str ("name" : Str))) (aCons (e2 fDG (eVar 6) (e2 fMod (e2 fDiv (eVar 5) (eC (.int 18))) (eF (f1 fLen) (aCons (eVar 6) aNil)))) aNil)))) bNil)
  (bSeq (sAppS (eVar 4) (eVar 2))
  (sRet (eTup (aCons (eC (.str ("name" : Str))) (aCons (eF (f1 fStr) (aCons (e1S fLenD (eVar 4)) aNil)) aNil)))))) bNil)
  (bSeq (sSet 7 (eCall c_makers (aCons (eVar 1) (aCons (eVar 2) aNil))))
  (bSeq (sAsg (e2 fDG (eVar 7) (e2 fMod (e2 fDiv (eVar 5) (eC (.int 6))) (eF (f1 fLen) (aCons (eVar 7) aNil)))) (gT (gsC (gN 8) (gsC (gN 9) gsN))))
  (bSeq (sIf (trB (e2 fEq (eVar 3) (eC (.int 0)))) (sAsg (e2 fDG (eVar 7) (eC (.int 0))) (gT (gsC (gN 8) (gsC (gN 9) gsN)))) bNil)
  (sRet (eTup (aCons (eC (.str ("made" : Str))) (aCons (eVar 8) (aCons (eF (f1 fTupD) (aCons (eLc (iSeq (eVar 9)) (gN 11) tY (eCall c_open (aCons (eVar 0) (aCons (eVar 1) (aCons (eVar 11) (aCons (eF (f2 fMax2) (aCons (eC (.int 0)) (aCons (e2 fSub (eVar 3) (eC (.int 1))) aNil))) (aCons (eVar 4) aNil)))))) [11]) aNil)) aNil)))))))))))
theorem ok_open {k : Nat} {a_open : Addr} {d_open : FuncData} {a_makers : Addr} {d_makers : FuncData} {c_makers : List D → M D} {a_next : Addr} {d_next : FuncData} {c_next : List D → M D} {c_open : List D → M D} (T : Bt mg) (C_open : Cal K mg "_law_open" s_open P_open a_open d_open) (G_open : FnOk P w K mg base CX0 k a_open d_open P_open (spM ⟨K, dk⟩ W c_open)) (C_makers : Cal K mg "_law_makers" s_makers P_makers a_makers d_makers) (G_makers : FnOk P w K mg base CX0 k a_makers d_makers P_makers (spM ⟨K, dk⟩ W c_makers)) (C_next : Cal K mg "_law_next" s_next P_next a_next d_next) (G_next : FnOk P w K mg base CX0 k a_next d_next P_next (spM ⟨K, dk⟩ W c_next)) :
    FnOk P w K mg base CX0 (k + 1) a_open d_open P_open (spM ⟨K, dk⟩ W (fnA 5 12 (b_open c_open c_makers c_next))) :=
  fn_ok [] C_open.F sc_open rfl fun cdv A outer s H E R hr =>
    (db_cons (ds_set (i := 5) sc_open.nd rfl (Or.inl rfl) (d_call G_next (hr.mono (by omega)) (by rfl) C_next.m C_next.F.kp C_next.b (da_cons (d_var (pv 0)) da_nil)))
    (db_cons (ds_setLc (i := 6) (own := [("_law_at", 10)]) sc_open.nd rfl rfl (sw_true rfl rfl rfl (by decide +kernel)) (di_r1 (d_lenS (by rfl) T.t_len (by decide +kernel) (d_var (pv 4))) (by rfl) T.t_range) (blkOk_by (own := [("_law_at", 10)]) (N := N_open) (sc := defScope s_open) (by decide +kernel)) (fun _ _ _ _ _ => (dg_name (pg_name (i := 10) sc_open.nd rfl (Or.inl rfl)))) (fun _ _ _ _ _ => (dts_one (dt_eq hr.units (d_ixS hr.units (d_var (pv 4)) (d_var (pv 10))) (d_var (pv 2))))) (fun _ _ _ _ _ => (d_callT call_str_int c_str (by rfl) T.t_str (by decide +kernel) (da_cons (d_add (d_var (pv 10)) d_int) da_nil))))
    (db_cons (ds_if (dw_pt (dw_or (dt_eq hr.units (d_mod (d_var (pv 5)) d_int) d_int) (dw_or1 (dw_pt (dw_and (dt_eq hr.units (d_var (pv 3)) d_int) (dw_and1 (dt_eq hr.units (d_mod (d_var (pv 5)) d_int) d_int))))))) (db_cons (ds_if (dw_pt (dw_and (dt_ne hr.units (d_var (pv 6)) (d_lst da_nil aNil_len)) (dw_and1 (dt_gt (d_mod (d_div (d_var (pv 5)) d_int) d_int) d_int)))) (db_one (ds_ret (d_tup (da_cons d_str (da_cons (d_ixD hr.units (d_var (pv 6)) (d_mod (d_div (d_var (pv 5)) d_int) (d_callB call_len (c_len rfl) (by rfl) T.t_len (by decide +kernel) (da_cons (d_var (pv 6)) da_nil)))) da_nil)) (aCons_len (aCons_len aNil_len))))) db_nil)
    (db_cons (ds_appS (d_var (pv 4)) (d_var (pv 2)))
    (db_one (ds_ret (d_tup (da_cons d_str (da_cons (d_callT call_str_int c_str (by rfl) T.t_str (by decide +kernel) (da_cons (d_lenS (by rfl) T.t_len (by decide +kernel) (d_var (pv 4))) da_nil)) da_nil)) (aCons_len (aCons_len aNil_len))))))) db_nil)
    (db_cons (ds_set (i := 7) sc_open.nd rfl (Or.inl rfl) (d_call G_makers (hr.mono (by omega)) (by rfl) C_makers.m C_makers.F.kp C_makers.b (da_cons (d_var (pv 1)) (da_cons (d_var (pv 2)) da_nil))))
    (db_cons (ds_asg (d_ixD hr.units (d_var (pv 7)) (d_mod (d_div (d_var (pv 5)) d_int) (d_callB call_len (c_len rfl) (by rfl) T.t_len (by decide +kernel) (da_cons (d_var (pv 7)) da_nil)))) (dg_tup (dgs_cons (dg_name (pg_name (i := 8) sc_open.nd rfl (Or.inl rfl))) (dgs_cons (dg_name (pg_name (i := 9) sc_open.nd rfl (Or.inl rfl))) dgs_nil))))
    (db_cons (ds_if (dt_eq hr.units (d_var (pv 3)) d_int) (db_one (ds_asg (d_ixD hr.units (d_var (pv 7)) d_int) (dg_tup (dgs_cons (dg_name (pg_name (i := 8) sc_open.nd rfl (Or.inl rfl))) (dgs_cons (dg_name (pg_name (i := 9) sc_open.nd rfl (Or.inl rfl))) dgs_nil))))) db_nil)
    (db_one (ds_ret (d_tup (da_cons d_str (da_cons (d_var (pv 8)) (da_cons (d_callT (call_tuple_of.or (call_tup_dR rfl)) (c_tupD rfl) (by rfl) T.t_tuple (by decide +kernel) (da_cons (d_lc (own := [("_law_part", 11)]) sc_open.nd (di_seq (d_var (pv 9))) (blkOk_by (own := [("_law_part", 11)]) (N := N_open) (sc := defScope s_open) (by decide +kernel)) (fun _ _ _ _ _ => (dg_name (pg_name (i := 11) sc_open.nd rfl (Or.inl rfl)))) (fun _ _ _ _ _ => dts_nil) (fun _ _ _ _ _ => (d_call G_open (hr.mono (by omega)) (by rfl) C_open.m C_open.F.kp C_open.b (da_cons (d_var (pv 0)) (da_cons (d_var (pv 1)) (da_cons (d_var (pv 11)) (da_cons (d_callB (call_max2 rfl) c_max2 (by rfl) T.t_max (by decide +kernel) (da_cons d_int (da_cons (d_sub (d_var (pv 3)) d_int) da_nil))) (da_cons (d_var (pv 4)) da_nil)))))))) da_nil)) da_nil))) (aCons_len (aCons_len (aCons_len aNil_len))))))))))))
abbrev s_open_fills : Stmt := top 15
abbrev N_open_fills : List Str := ["_law_deck_here", "_law_kinds_here", "_law_names", "_law_known", "_law_name", "_law_kind"]
abbrev P_open_fills : List Str := ["_law_deck_here", "_law_kinds_here", "_law_names", "_law_known"]
theorem sc_open_fills : FnScope N_open_fills P_open_fills (defScope s_open_fills) := ⟨rfl, rfl, rfl, by decide +kernel, rfl, by decide +kernel, by decide +kernel⟩
def b_open_fills (c_open : List D → M D) (c_next : List D → M D) : Bd :=
  (sRet (eF (f1 fTupD) (aCons (eLc (iSeq (eVar 2)) (gT (gsC (gN 4) (gsC (gN 5) gsN))) tY (eTup (aCons (eVar 4) (aCons (eCall c_open (aCons (eVar 0) (aCons (eVar 1) (aCons (eVar 5) (aCons (e2 fMod (eCall c_next (aCons (eVar 0) aNil)) (eC (.int 3))) (aCons (eVar 3) aNil)))))) aNil))) [4, 5]) aNil)))
theorem ok_open_fills {k : Nat} {a_open_fills : Addr} {d_open_fills : FuncData} {a_open : Addr} {d_open : FuncData} {c_open : List D → M D} {a_next : Addr} {d_next : FuncData} {c_next : List D → M D} (T : Bt mg) (C_open_fills : Cal K mg "_law_open_fills" s_open_fills P_open_fills a_open_fills d_open_fills) (C_open : Cal K mg "_law_open" s_open P_open a_open d_open) (G_open : FnOk P w K mg base CX0 k a_open d_open P_open (spM ⟨K, dk⟩ W c_open)) (C_next : Cal K mg "_law_next" s_next P_next a_next d_next) (G_next : FnOk P w K mg base CX0 k a_next d_next P_next (spM ⟨K, dk⟩ W c_next)) :
    FnOk P w K mg base CX0 (k + 1) a_open_fills d_open_fills P_open_fills (spM ⟨K, dk⟩ W (fnA 4 6 (b_open_fills c_open c_next))) :=
  fn_ok [] C_open_fills.F sc_open_fills rfl fun cdv A outer s H E R hr =>
    (db_one (ds_ret (d_callT (call_tuple_of.or (call_tup_dR rfl)) (c_tupD rfl) (by rfl) T.t_tuple (by decide +kernel) (da_cons (d_lc (own := [("_law_name", 4), ("_law_kind", 5)]) sc_open_fills.nd (di_seq (d_var (pv 2))) (blkOk_by (own := [("_law_name", 4), ("_law_kind", 5)]) (N := N_open_fills) (sc := defScope s_open_fills) (by decide +kernel)) (fun _ _ _ _ _ => (dg_tup (dgs_cons (dg_name (pg_name (i := 4) sc_open_fills.nd rfl (Or.inl rfl))) (dgs_cons (dg_name (pg_name (i := 5) sc_open_fills.nd rfl (Or.inl rfl))) dgs_nil)))) (fun _ _ _ _ _ => dts_nil) (fun _ _ _ _ _ => (d_tup (da_cons (d_var (pv 4)) (da_cons (d_call G_open (hr.mono (by omega)) (by rfl) C_open.m C_open.F.kp C_open.b (da_cons (d_var (pv 0)) (da_cons (d_var (pv 1)) (da_cons (d_var (pv 5)) (da_cons (d_mod (d_call G_next (hr.mono (by omega)) (by rfl) C_next.m C_next.F.kp C_next.b (da_cons (d_var (pv 0)) da_nil)) d_int) (da_cons (d_var (pv 3)) da_nil)))))) da_nil)) (aCons_len (aCons_len aNil_len))))) da_nil))))
abbrev s_asked_names : Stmt := top 16
abbrev N_asked_names : List Str := ["_law_deck_here", "_law_kinds_here", "_law_some", "_law_many", "_law_row", "_law_at"]
abbrev P_asked_names : List Str := ["_law_deck_here", "_law_kinds_here"]
theorem sc_asked_names : FnScope N_asked_names P_asked_names (defScope s_asked_names) := ⟨rfl, rfl, rfl, by decide +kernel, rfl, by decide +kernel, by decide +kernel⟩
def b_asked_names (c_next : List D → M D) : Bd :=
  (bSeq (sSet 2 (e2 fAdd (eLc (iSeq (eVar 1)) (gN 4) tY (e2 fDG (eVar 4) (eC (.int 0))) [4]) (eLst (aCons (eC (.str ("truth" : Str))) aNil))))
  (bSeq (sSet 3 (e2 fAdd (eC (.int 1)) (e2 fMod (eCall c_next (aCons (eVar 0) aNil)) (eC (.int 4)))))
  (sRet (eF (f1 fTupD) (aCons (eLc (i1 fR1 (eVar 3)) (gN 5) tY (eTup (aCons (e2 fDG (eLst (aCons (eC (.str ("x" : Str))) (aCons (eC (.str ("yy" : Str))) (aCons (eC (.str ("zeta" : Str))) (aCons (eC (.str ("b" : Str))) aNil))))) (eVar 5)) (aCons (e2 fDG (eVar 2) (e2 fMod (eCall c_next (aCons (eVar 0) aNil)) (eF (f1 fLen) (aCons (eVar 2) aNil)))) aNil))) [5]) aNil)))))
theorem ok_asked_names {k : Nat} {a_asked_names : Addr} {d_asked_names : FuncData} {a_next : Addr} {d_next : FuncData} {c_next : List D → M D} (T : Bt mg) (C_asked_names : Cal K mg "_law_asked_names" s_asked_names P_asked_names a_asked_names d_asked_names) (C_next : Cal K mg "_law_next" s_next P_next a_next d_next) (G_next : FnOk P w K mg base CX0 k a_next d_next P_next (spM ⟨K, dk⟩ W c_next)) :
    FnOk P w K mg base CX0 (k + 1) a_asked_names d_asked_names P_asked_names (spM ⟨K, dk⟩ W (fnA 2 6 (b_asked_names c_next))) :=
  fn_ok [] C_asked_names.F sc_asked_names rfl fun cdv A outer s H E R hr =>
    (db_cons (ds_set (i := 2) sc_asked_names.nd rfl (Or.inr rfl) (d_add (d_lc (own := [("_law_row", 4)]) sc_asked_names.nd (di_seq (d_var (pv 1))) (blkOk_by (own := [("_law_row", 4)]) (N := N_asked_names) (sc := defScope s_asked_names) (by decide +kernel)) (fun _ _ _ _ _ => (dg_name (pg_name (i := 4) sc_asked_names.nd rfl (Or.inl rfl)))) (fun _ _ _ _ _ => dts_nil) (fun _ _ _ _ _ => (d_ixD hr.units (d_var (pv 4)) d_int))) (d_lst (da_cons d_str da_nil) (aCons_len aNil_len))))
    (db_cons (ds_set (i := 3) sc_asked_names.nd rfl (Or.inl rfl) (d_add d_int (d_mod (d_call G_next (hr.mono (by omega)) (by rfl) C_next.m C_next.F.kp C_next.b (da_cons (d_var (pv 0)) da_nil)) d_int)))
    (db_one (ds_ret (d_callT (call_tuple_of.or (call_tup_dR rfl)) (c_tupD rfl) (by rfl) T.t_tuple (by decide +kernel) (da_cons (d_lc (own := [("_law_at", 5)]) sc_asked_names.nd (di_r1 (d_var (pv 3)) (by rfl) T.t_range) (blkOk_by (own := [("_law_at", 5)]) (N := N_asked_names) (sc := defScope s_asked_names) (by decide +kernel)) (fun _ _ _ _ _ => (dg_name (pg_name (i := 5) sc_asked_names.nd rfl (Or.inl rfl)))) (fun _ _ _ _ _ => dts_nil) (fun _ _ _ _ _ => (d_tup (da_cons (d_ixD hr.units (d_lst (da_cons d_str (da_cons d_str (da_cons d_str (da_cons d_str da_nil)))) (aCons_len (aCons_len (aCons_len (aCons_len aNil_len))))) (d_var (pv 5))) (da_cons (d_ixD hr.units (d_var (pv 2)) (d_mod (d_call G_next (hr.mono (by omega)) (by rfl) C_next.m C_next.F.kp C_next.b (da_cons (d_var (pv 0)) da_nil)) (d_callB call_len (c_len rfl) (by rfl) T.t_len (by decide +kernel) (da_cons (d_var (pv 2)) da_nil)))) da_nil)) (aCons_len (aCons_len aNil_len))))) da_nil))))))
abbrev s_match : Stmt := top 17
abbrev N_match : List Str := ["_law_thing", "_law_given", "_law_found", "_law_part", "_law_own"]
abbrev P_match : List Str := ["_law_thing", "_law_given", "_law_found"]
theorem sc_match : FnScope N_match P_match (defScope s_match) := ⟨rfl, rfl, rfl, by decide +kernel, rfl, by decide +kernel, by decide +kernel⟩
def l1_match (c_match : List D → M D) : Bd :=
  (sIf (tNt (trB (eCall c_match (aCons (eVar 3) (aCons (eVar 4) (aCons (eVar 2) aNil)))))) (sRet (eC (.bl false))) bNil)
def b_match (c_match : List D → M D) : Bd :=
  (bSeq (sIf (trB (e2 fEq (e2 fDG (eVar 0) (eC (.int 0))) (eC (.str ("name" : Str))))) (bSeq (sIf (trB (e2R fNotInK (e2 fDG (eVar 0) (eC (.int 1))) (eVar 2))) (sPutS (eVar 2) (e2 fDG (eVar 0) (eC (.int 1))) (eVar 1)) bNil)
  (sRet (e2 fEq (e2S fDG (eVar 2) (e2 fDG (eVar 0) (eC (.int 1)))) (eVar 1)))) bNil)
  (bSeq (sIf (tOr' (trB (e2 fNe (e2 fDG (eVar 0) (eC (.int 1))) (e2 fDG (eVar 1) (eC (.int 1))))) (trB (e2 fNe (eF (f1 fLen) (aCons (e2 fDG (eVar 0) (eC (.int 2))) aNil)) (eF (f1 fLen) (aCons (e2 fDG (eVar 1) (eC (.int 2))) aNil))))) (sRet (eC (.bl false))) bNil)
  (bSeq (sFor (i2 fZip (e2 fDG (eVar 0) (eC (.int 2))) (e2 fDG (eVar 1) (eC (.int 2)))) (gT (gsC (gN 3) (gsC (gN 4) gsN))) (l1_match c_match))
  (sRet (eC (.bl true))))))
theorem ok_match {k : Nat} {a_match : Addr} {d_match : FuncData} {c_match : List D → M D} (T : Bt mg) (C_match : Cal K mg "_law_match" s_match P_match a_match d_match) (G_match : FnOk P w K mg base CX0 k a_match d_match P_match (spM ⟨K, dk⟩ W c_match)) :
    FnOk P w K mg base CX0 (k + 1) a_match d_match P_match (spM ⟨K, dk⟩ W (fnA 3 5 (b_match c_match))) :=
  fn_ok [] C_match.F sc_match rfl fun cdv A outer s H E R hr =>
    (db_cons (ds_if (dt_eq hr.units (d_ixD hr.units (d_var (pv 0)) d_int) d_str) (db_cons (ds_if (dt_notinS hr.units (d_ixD hr.units (d_var (pv 0)) d_int) (d_var (pv 2))) (db_one (ds_putS' hr.units (d_var (pv 2)) (d_ixD hr.units (d_var (pv 0)) d_int) (d_var (pv 1)))) db_nil)
    (db_one (ds_ret (d_eq hr.units (d_ixS hr.units (d_var (pv 2)) (d_ixD hr.units (d_var (pv 0)) d_int)) (d_var (pv 1)))))) db_nil)
    (db_cons (ds_if (dw_pt (dw_or (dt_ne hr.units (d_ixD hr.units (d_var (pv 0)) d_int) (d_ixD hr.units (d_var (pv 1)) d_int)) (dw_or1 (dt_ne hr.units (d_callB call_len (c_len rfl) (by rfl) T.t_len (by decide +kernel) (da_cons (d_ixD hr.units (d_var (pv 0)) d_int) da_nil)) (d_callB call_len (c_len rfl) (by rfl) T.t_len (by decide +kernel) (da_cons (d_ixD hr.units (d_var (pv 1)) d_int) da_nil)))))) (db_one (ds_ret d_bl)) db_nil)
    (db_cons (ds_for (di_zip (d_ixD hr.units (d_var (pv 0)) d_int) (d_ixD hr.units (d_var (pv 1)) d_int) (by rfl) T.t_zip) (dg_tup (dgs_cons (dg_name (pg_name (i := 3) sc_match.nd rfl (Or.inl rfl))) (dgs_cons (dg_name (pg_name (i := 4) sc_match.nd rfl (Or.inl rfl))) dgs_nil))) (db_one (ds_if (dt_not (dt_tr (d_call G_match (hr.mono (by omega)) (by rfl) C_match.m C_match.F.kp C_match.b (da_cons (d_var (pv 3)) (da_cons (d_var (pv 4)) (da_cons (d_var (pv 2)) da_nil)))))) (db_one (ds_ret d_bl)) db_nil)))
    (db_one (ds_ret d_bl)))))
abbrev s_due : Stmt := top 18
abbrev N_due : List Str := ["_law_answer", "_law_fills", "_law_value_here", "_law_found", "_law_own", "_law_given", "_law_at"]
abbrev P_due : List Str := ["_law_answer", "_law_fills", "_law_value_here"]
theorem sc_due : FnScope N_due P_due (defScope s_due) := ⟨rfl, rfl, rfl, by decide +kernel, rfl, by decide +kernel, by decide +kernel⟩
def l1_due (c_match : List D → M D) : Bd :=
  (sIf (tNt (trB (eCall c_match (aCons (e2 fDG (eVar 4) (eC (.int 1))) (aCons (e2 fDG (eVar 5) (eC (.int 1))) (aCons (eVar 3) aNil)))))) (sRet (eC .non)) bNil)
def b_due (c_match : List D → M D) : Bd :=
  (bSeq (sSet 3 (eShr (eC (.dk [] []))))
  (bSeq (sFor (i2 fZipM (e2 fDG (eVar 0) (eC (.int 0))) (eVar 1)) (gT (gsC (gN 4) (gsC (gN 5) gsN))) (l1_due c_match))
  (bSeq (sIf (tNt (trB (eCall c_match (aCons (e2 fDG (eVar 0) (eC (.int 1))) (aCons (eVar 2) (aCons (eVar 3) aNil)))))) (sRet (eC .non)) bNil)
  (sRet (eF (f1 fTupD) (aCons (eLc (i1 fR1 (e1S fLenD (eVar 3))) (gN 6) tY (eTup (aCons (eF (f1 fStr) (aCons (e2 fAdd (eVar 6) (eC (.int 1))) aNil)) (aCons (e2S fDG (eVar 3) (eF (f1 fStr) (aCons (e2 fAdd (eVar 6) (eC (.int 1))) aNil))) aNil))) [6]) aNil))))))
theorem ok_due {k : Nat} {a_due : Addr} {d_due : FuncData} {a_match : Addr} {d_match : FuncData} {c_match : List D → M D} (T : Bt mg) (C_due : Cal K mg "_law_due" s_due P_due a_due d_due) (C_match : Cal K mg "_law_match" s_match P_match a_match d_match) (G_match : FnOk P w K mg base CX0 k a_match d_match P_match (spM ⟨K, dk⟩ W c_match)) :
    FnOk P w K mg base CX0 (k + 1) a_due d_due P_due (spM ⟨K, dk⟩ W (fnA 3 7 (b_due c_match))) :=
  fn_ok [] C_due.F sc_due rfl fun cdv A outer s H E R hr =>
    (db_cons (ds_set (i := 3) sc_due.nd rfl (Or.inr rfl) (d_shr do_dict0))
    (db_cons (ds_for (di_zipM (d_ixD hr.units (d_var (pv 0)) d_int) (d_var (pv 1)) (by rfl) T.t_zip) (dg_tup (dgs_cons (dg_name (pg_name (i := 4) sc_due.nd rfl (Or.inl rfl))) (dgs_cons (dg_name (pg_name (i := 5) sc_due.nd rfl (Or.inl rfl))) dgs_nil))) (db_one (ds_if (dt_not (dt_tr (d_call G_match (hr.mono (by omega)) (by rfl) C_match.m C_match.F.kp C_match.b (da_cons (d_ixD hr.units (d_var (pv 4)) d_int) (da_cons (d_ixD hr.units (d_var (pv 5)) d_int) (da_cons (d_var (pv 3)) da_nil)))))) (db_one (ds_ret d_non)) db_nil)))
    (db_cons (ds_if (dt_not (dt_tr (d_call G_match (hr.mono (by omega)) (by rfl) C_match.m C_match.F.kp C_match.b (da_cons (d_ixD hr.units (d_var (pv 0)) d_int) (da_cons (d_var (pv 2)) (da_cons (d_var (pv 3)) da_nil)))))) (db_one (ds_ret d_non)) db_nil)
    (db_one (ds_ret (d_callT (call_tuple_of.or (call_tup_dR rfl)) (c_tupD rfl) (by rfl) T.t_tuple (by decide +kernel) (da_cons (d_lc (own := [("_law_at", 6)]) sc_due.nd (di_r1 (d_lenS (by rfl) T.t_len (by decide +kernel) (d_var (pv 3))) (by rfl) T.t_range) (blkOk_by (own := [("_law_at", 6)]) (N := N_due) (sc := defScope s_due) (by decide +kernel)) (fun _ _ _ _ _ => (dg_name (pg_name (i := 6) sc_due.nd rfl (Or.inl rfl)))) (fun _ _ _ _ _ => dts_nil) (fun _ _ _ _ _ => (d_tup (da_cons (d_callT call_str_int c_str (by rfl) T.t_str (by decide +kernel) (da_cons (d_add (d_var (pv 6)) d_int) da_nil)) (da_cons (d_ixS hr.units (d_var (pv 3)) (d_callT call_str_int c_str (by rfl) T.t_str (by decide +kernel) (da_cons (d_add (d_var (pv 6)) d_int) da_nil))) da_nil)) (aCons_len (aCons_len aNil_len))))) da_nil)))))))
abbrev s_value : Stmt := top 19
abbrev N_value : List Str := ["_law_deck_here", "_law_kinds_here", "_law_known", "_law_kind", "_law_far", "_law_number", "_law_old", "_law_makers_here", "_law_maker", "_law_parts", "_law_at", "_law_part"]
abbrev P_value : List Str := ["_law_deck_here", "_law_kinds_here", "_law_known", "_law_kind", "_law_far"]
theorem sc_value : FnScope N_value P_value (defScope s_value) := ⟨rfl, rfl, rfl, by decide +kernel, rfl, by decide +kernel, by decide +kernel⟩
def b_value (c_value : List D → M D) (c_makers : List D → M D) (c_next : List D → M D) : Bd :=
  (bSeq (sSet 5 (eCall c_next (aCons (eVar 0) aNil)))
  (bSeq (sSet 6 (eLc (i1 fR1 (e1S fLenD (eVar 2))) (gN 10) (trB (e2 fEq (e2S fDG (eVar 2) (eVar 10)) (eVar 3))) (eF (f1 fStr) (aCons (e2 fAdd (eVar 10) (eC (.int 1))) aNil)) [10]))
  (bSeq (sIf (tAn (trB (e2 fNe (eVar 6) (eLst aNil))) (trB (e2 fGt (e2 fMod (eVar 5) (eC (.int 3))) (eC (.int 0))))) (sRet (eTup (aCons (eC (.str ("name" : Str))) (aCons (e2 fDG (eVar 6) (e2 fMod (e2 fDiv (eVar 5) (eC (.int 3))) (eF (f1 fLen) (aCons (eVar 6) aNil)))) aNil)))) bNil)
  (bSeq (sSet 7 (eCall c_makers (aCons (eVar 1) (aCons (eVar 3) aNil))))
  (bSeq (sAsg (e2 fDG (eVar 7) (e2 fMod (e2 fDiv (eVar 5) (eC (.int 3))) (eF (f1 fLen) (aCons (eVar 7) aNil)))) (gT (gsC (gN 8) (gsC (gN 9) gsN))))
  (bSeq (sIf (trB (e2 fEq (eVar 4) (eC (.int 0)))) (sAsg (e2 fDG (eVar 7) (eC (.int 0))) (gT (gsC (gN 8) (gsC (gN 9) gsN)))) bNil)
  (sRet (eTup (aCons (eC (.str ("made" : Str))) (aCons (eVar 8) (aCons (eF (f1 fTupD) (aCons (eLc (iSeq (eVar 9)) (gN 11) tY (eCall c_value (aCons (eVar 0) (aCons (eVar 1) (aCons (eVar 2) (aCons (eVar 11) (aCons (eF (f2 fMax2) (aCons (eC (.int 0)) (aCons (e2 fSub (eVar 4) (eC (.int 1))) aNil))) aNil)))))) [11]) aNil)) aNil)))))))))))
theorem ok_value {k : Nat} {a_value : Addr} {d_value : FuncData} {a_makers : Addr} {d_makers : FuncData} {c_makers : List D → M D} {a_next : Addr} {d_next : FuncData} {c_next : List D → M D} {c_value : List D → M D} (T : Bt mg) (C_value : Cal K mg "_law_value" s_value P_value a_value d_value) (G_value : FnOk P w K mg base CX0 k a_value d_value P_value (spM ⟨K, dk⟩ W c_value)) (C_makers : Cal K mg "_law_makers" s_makers P_makers a_makers d_makers) (G_makers : FnOk P w K mg base CX0 k a_makers d_makers P_makers (spM ⟨K, dk⟩ W c_makers)) (C_next : Cal K mg "_law_next" s_next P_next a_next d_next) (G_next : FnOk P w K mg base CX0 k a_next d_next P_next (spM ⟨K, dk⟩ W c_next)) :
    FnOk P w K mg base CX0 (k + 1) a_value d_value P_value (spM ⟨K, dk⟩ W (fnA 5 12 (b_value c_value c_makers c_next))) :=
  fn_ok [] C_value.F sc_value rfl fun cdv A outer s H E R hr =>
    (db_cons (ds_set (i := 5) sc_value.nd rfl (Or.inl rfl) (d_call G_next (hr.mono (by omega)) (by rfl) C_next.m C_next.F.kp C_next.b (da_cons (d_var (pv 0)) da_nil)))
    (db_cons (ds_setLc (i := 6) (own := [("_law_at", 10)]) sc_value.nd rfl rfl (sw_true rfl rfl rfl (by decide +kernel)) (di_r1 (d_lenS (by rfl) T.t_len (by decide +kernel) (d_var (pv 2))) (by rfl) T.t_range) (blkOk_by (own := [("_law_at", 10)]) (N := N_value) (sc := defScope s_value) (by decide +kernel)) (fun _ _ _ _ _ => (dg_name (pg_name (i := 10) sc_value.nd rfl (Or.inl rfl)))) (fun _ _ _ _ _ => (dts_one (dt_eq hr.units (d_ixS hr.units (d_var (pv 2)) (d_var (pv 10))) (d_var (pv 3))))) (fun _ _ _ _ _ => (d_callT call_str_int c_str (by rfl) T.t_str (by decide +kernel) (da_cons (d_add (d_var (pv 10)) d_int) da_nil))))
    (db_cons (ds_if (dw_pt (dw_and (dt_ne hr.units (d_var (pv 6)) (d_lst da_nil aNil_len)) (dw_and1 (dt_gt (d_mod (d_var (pv 5)) d_int) d_int)))) (db_one (ds_ret (d_tup (da_cons d_str (da_cons (d_ixD hr.units (d_var (pv 6)) (d_mod (d_div (d_var (pv 5)) d_int) (d_callB call_len (c_len rfl) (by rfl) T.t_len (by decide +kernel) (da_cons (d_var (pv 6)) da_nil)))) da_nil)) (aCons_len (aCons_len aNil_len))))) db_nil)
    (db_cons (ds_set (i := 7) sc_value.nd rfl (Or.inl rfl) (d_call G_makers (hr.mono (by omega)) (by rfl) C_makers.m C_makers.F.kp C_makers.b (da_cons (d_var (pv 1)) (da_cons (d_var (pv 3)) da_nil))))
    (db_cons (ds_asg (d_ixD hr.units (d_var (pv 7)) (d_mod (d_div (d_var (pv 5)) d_int) (d_callB call_len (c_len rfl) (by rfl) T.t_len (by decide +kernel) (da_cons (d_var (pv 7)) da_nil)))) (dg_tup (dgs_cons (dg_name (pg_name (i := 8) sc_value.nd rfl (Or.inl rfl))) (dgs_cons (dg_name (pg_name (i := 9) sc_value.nd rfl (Or.inl rfl))) dgs_nil))))
    (db_cons (ds_if (dt_eq hr.units (d_var (pv 4)) d_int) (db_one (ds_asg (d_ixD hr.units (d_var (pv 7)) d_int) (dg_tup (dgs_cons (dg_name (pg_name (i := 8) sc_value.nd rfl (Or.inl rfl))) (dgs_cons (dg_name (pg_name (i := 9) sc_value.nd rfl (Or.inl rfl))) dgs_nil))))) db_nil)
    (db_one (ds_ret (d_tup (da_cons d_str (da_cons (d_var (pv 8)) (da_cons (d_callT (call_tuple_of.or (call_tup_dR rfl)) (c_tupD rfl) (by rfl) T.t_tuple (by decide +kernel) (da_cons (d_lc (own := [("_law_part", 11)]) sc_value.nd (di_seq (d_var (pv 9))) (blkOk_by (own := [("_law_part", 11)]) (N := N_value) (sc := defScope s_value) (by decide +kernel)) (fun _ _ _ _ _ => (dg_name (pg_name (i := 11) sc_value.nd rfl (Or.inl rfl)))) (fun _ _ _ _ _ => dts_nil) (fun _ _ _ _ _ => (d_call G_value (hr.mono (by omega)) (by rfl) C_value.m C_value.F.kp C_value.b (da_cons (d_var (pv 0)) (da_cons (d_var (pv 1)) (da_cons (d_var (pv 2)) (da_cons (d_var (pv 11)) (da_cons (d_callB (call_max2 rfl) c_max2 (by rfl) T.t_max (by decide +kernel) (da_cons d_int (da_cons (d_sub (d_var (pv 4)) d_int) da_nil))) da_nil)))))))) da_nil)) da_nil))) (aCons_len (aCons_len (aCons_len aNil_len))))))))))))
abbrev s_otherwise : Stmt := top 20
abbrev N_otherwise : List Str := ["_law_deck_here", "_law_kinds_here", "_law_thing", "_law_kind", "_law_number", "_law_at", "_law_own", "_law_row"]
abbrev P_otherwise : List Str := ["_law_deck_here", "_law_kinds_here", "_law_thing", "_law_kind"]
theorem sc_otherwise : FnScope N_otherwise P_otherwise (defScope s_otherwise) := ⟨rfl, rfl, rfl, by decide +kernel, rfl, by decide +kernel, by decide +kernel⟩
def b_otherwise (c_otherwise : List D → M D) (c_makers : List D → M D) (c_plain : List D → M D) (c_next : List D → M D) : Bd :=
  (bSeq (sSet 4 (eCall c_next (aCons (eVar 0) aNil)))
  (bSeq (sIf (tOr' (trB (e2 fEq (e2 fDG (eVar 2) (eC (.int 2))) (eTup aNil))) (trB (e2 fEq (e2 fMod (eVar 4) (eC (.int 3))) (eC (.int 0))))) (sRet (eCall c_plain (aCons (eVar 0) (aCons (eVar 1) (aCons (eVar 3) (aCons (eC (.int 1)) aNil)))))) bNil)
  (bSeq (sSet 5 (e2 fMod (e2 fDiv (eVar 4) (eC (.int 3))) (eF (f1 fLen) (aCons (e2 fDG (eVar 2) (eC (.int 2))) aNil))))
  (bSeq (sSet 6 (e2 fDG (e2 fDG (eLc (iSeq (eCall c_makers (aCons (eVar 1) (aCons (eVar 3) aNil)))) (gN 7) (trB (e2 fEq (e2 fDG (eVar 7) (eC (.int 0))) (e2 fDG (eVar 2) (eC (.int 1))))) (e2 fDG (eVar 7) (eC (.int 1))) [7]) (eC (.int 0))) (eVar 5)))
  (sRet (eTup (aCons (eC (.str ("made" : Str))) (aCons (e2 fDG (eVar 2) (eC (.int 1))) (aCons (e2 fAdd (e2 fAdd (eSl (e2 fDG (eVar 2) (eC (.int 2))) (fun _ => Mp none) (pSome (eVar 5))) (eTup (aCons (eCall c_otherwise (aCons (eVar 0) (aCons (eVar 1) (aCons (e2 fDG (e2 fDG (eVar 2) (eC (.int 2))) (eVar 5)) (aCons (eVar 6) aNil))))) aNil))) (eSl (e2 fDG (eVar 2) (eC (.int 2))) (pSome (e2 fAdd (eVar 5) (eC (.int 1)))) (fun _ => Mp none))) aNil)))))))))
theorem ok_otherwise {k : Nat} {a_otherwise : Addr} {d_otherwise : FuncData} {a_makers : Addr} {d_makers : FuncData} {c_makers : List D → M D} {a_plain : Addr} {d_plain : FuncData} {c_plain : List D → M D} {a_next : Addr} {d_next : FuncData} {c_next : List D → M D} {c_otherwise : List D → M D} (T : Bt mg) (C_otherwise : Cal K mg "_law_otherwise" s_otherwise P_otherwise a_otherwise d_otherwise) (G_otherwise : FnOk P w K mg base CX0 k a_otherwise d_otherwise P_otherwise (spM ⟨K, dk⟩ W c_otherwise)) (C_makers : Cal K mg "_law_makers" s_makers P_makers a_makers d_makers) (G_makers : FnOk P w K mg base CX0 k a_makers d_makers P_makers (spM ⟨K, dk⟩ W c_makers)) (C_plain : Cal K mg "_law_plain" s_plain P_plain a_plain d_plain) (G_plain : FnOk P w K mg base CX0 k a_plain d_plain P_plain (spM ⟨K, dk⟩ W c_plain)) (C_next : Cal K mg "_law_next" s_next P_next a_next d_next) (G_next : FnOk P w K mg base CX0 k a_next d_next P_next (spM ⟨K, dk⟩ W c_next)) :
    FnOk P w K mg base CX0 (k + 1) a_otherwise d_otherwise P_otherwise (spM ⟨K, dk⟩ W (fnA 4 8 (b_otherwise c_otherwise c_makers c_plain c_next))) :=
  fn_ok [] C_otherwise.F sc_otherwise rfl fun cdv A outer s H E R hr =>
    (db_cons (ds_set (i := 4) sc_otherwise.nd rfl (Or.inl rfl) (d_call G_next (hr.mono (by omega)) (by rfl) C_next.m C_next.F.kp C_next.b (da_cons (d_var (pv 0)) da_nil)))
    (db_cons (ds_if (dw_pt (dw_or (dt_eq hr.units (d_ixD hr.units (d_var (pv 2)) d_int) (d_tup da_nil aNil_len)) (dw_or1 (dt_eq hr.units (d_mod (d_var (pv 4)) d_int) d_int)))) (db_one (ds_ret (d_call G_plain (hr.mono (by omega)) (by rfl) C_plain.m C_plain.F.kp C_plain.b (da_cons (d_var (pv 0)) (da_cons (d_var (pv 1)) (da_cons (d_var (pv 3)) (da_cons d_int da_nil))))))) db_nil)
    (db_cons (ds_set (i := 5) sc_otherwise.nd rfl (Or.inl rfl) (d_mod (d_div (d_var (pv 4)) d_int) (d_callB call_len (c_len rfl) (by rfl) T.t_len (by decide +kernel) (da_cons (d_ixD hr.units (d_var (pv 2)) d_int) da_nil))))
    (db_cons (ds_set (i := 6) sc_otherwise.nd rfl (Or.inl rfl) (d_ixD hr.units (d_ixD hr.units (d_lc (own := [("_law_row", 7)]) sc_otherwise.nd (di_seq (d_call G_makers (hr.mono (by omega)) (by rfl) C_makers.m C_makers.F.kp C_makers.b (da_cons (d_var (pv 1)) (da_cons (d_var (pv 3)) da_nil)))) (blkOk_by (own := [("_law_row", 7)]) (N := N_otherwise) (sc := defScope s_otherwise) (by decide +kernel)) (fun _ _ _ _ _ => (dg_name (pg_name (i := 7) sc_otherwise.nd rfl (Or.inl rfl)))) (fun _ _ _ _ _ => (dts_one (dt_eq hr.units (d_ixD hr.units (d_var (pv 7)) d_int) (d_ixD hr.units (d_var (pv 2)) d_int)))) (fun _ _ _ _ _ => (d_ixD hr.units (d_var (pv 7)) d_int))) d_int) (d_var (pv 5))))
    (db_one (ds_ret (d_tup (da_cons d_str (da_cons (d_ixD hr.units (d_var (pv 2)) d_int) (da_cons (d_add (d_add (d_sl (d_ixD hr.units (d_var (pv 2)) d_int) dp_none (dp_some (d_var (pv 5)))) (d_tup (da_cons (d_call G_otherwise (hr.mono (by omega)) (by rfl) C_otherwise.m C_otherwise.F.kp C_otherwise.b (da_cons (d_var (pv 0)) (da_cons (d_var (pv 1)) (da_cons (d_ixD hr.units (d_ixD hr.units (d_var (pv 2)) d_int) (d_var (pv 5))) (da_cons (d_var (pv 6)) da_nil))))) da_nil) (aCons_len aNil_len))) (d_sl (d_ixD hr.units (d_var (pv 2)) d_int) (dp_some (d_add (d_var (pv 5)) d_int)) dp_none)) da_nil))) (aCons_len (aCons_len (aCons_len aNil_len))))))))))
abbrev s_law : Stmt := top 21
abbrev N_law : List Str := ["_law_script", "_law_deck_here", "_law_kinds_here", "_law_names", "_law_kind", "_law_known", "_law_fills", "_law_answer", "_law_k", "_law_way", "_law_row", "_law_given", "_law_value_here", "_law_at", "_law_due_here", "_law_turn", "_law_name", "_law_thing", "_law_own"]
abbrev P_law : List Str := ["_law_script"]
theorem sc_law : FnScope N_law P_law (defScope s_law) := ⟨rfl, rfl, rfl, by decide +kernel, rfl, by decide +kernel, by decide +kernel⟩
def l1_law (c_same : List D → M D) (c_covers : List D → M D) : Bd :=
  (sIf (tNt (trB (eCall c_same (aCons (eCall c_covers (aCons (eVar 7) (aCons (eF (f1 fTupD) (aCons (eVar 11) aNil)) (aCons (eVar 12) aNil)))) (aCons (eVar 14) aNil))))) (sRet (eC (.bl false))) bNil)
def l2_law (c_next : List D → M D) (c_plain : List D → M D) (c_filled : List D → M D) (c_otherwise : List D → M D) (c_due : List D → M D) (c_same : List D → M D) (c_covers : List D → M D) : Bd :=
  (bSeq (sSet 9 (eCall c_next (aCons (eVar 1) aNil)))
  (bSeq (sSet 10 (eLc (i1 fR1 (e1S fLenD (eVar 5))) (gN 13) tY (eTup (aCons (eF (f1 fStr) (aCons (e2 fAdd (eVar 13) (eC (.int 1))) aNil)) (aCons (eCall c_plain (aCons (eVar 1) (aCons (eVar 2) (aCons (e2S fDG (eVar 5) (eVar 13)) (aCons (e2 fMod (e2 fDiv (eVar 9) (eC (.int 8))) (eC (.int 3))) aNil))))) aNil))) [13]))
  (bSeq (sSet 11 (eLc (iSeq (eVar 6)) (gT (gsC (gN 16) (gsC (gN 17) gsN))) tY (eTup (aCons (eVar 16) (aCons (eCall c_filled (aCons (eVar 17) (aCons (eVar 10) aNil))) aNil))) [16, 17]))
  (bSeq (sSet 12 (eCall c_filled (aCons (e2 fDG (eVar 7) (eC (.int 1))) (aCons (eVar 10) aNil))))
  (bSeq (sSet 13 (e2 fMod (e2 fDiv (eVar 9) (eC (.int 24))) (eF (f1 fLen) (aCons (eVar 3) aNil))))
  (bSeq (sIf (trB (e2 fEq (e2 fMod (eVar 9) (eC (.int 4))) (eC (.int 1)))) (sPutL 11 (eVar 13) (eFl (eTup (aCons (e2 fDG (e2 fDG (eVar 3) (eVar 13)) (eC (.int 0))) (aCons (eCall c_otherwise (aCons (eVar 1) (aCons (eVar 2) (aCons (e2 fDG (e2 fDG (eVar 11) (eVar 13)) (eC (.int 1))) (aCons (e2 fDG (e2 fDG (eVar 3) (eVar 13)) (eC (.int 1))) aNil))))) aNil))))) bNil)
  (bSeq (sIf (trB (e2 fEq (e2 fMod (eVar 9) (eC (.int 4))) (eC (.int 2)))) (sSet 12 (eCall c_otherwise (aCons (eVar 1) (aCons (eVar 2) (aCons (eVar 12) (aCons (eVar 4) aNil)))))) bNil)
  (bSeq (sIf (trB (e2 fEq (e2 fMod (eVar 9) (eC (.int 8))) (eC (.int 3)))) (sSet 11 (eLc (iSeq (eVar 3)) (gT (gsC (gN 16) (gsC (gN 18) gsN))) tY (eTup (aCons (eVar 16) (aCons (eCall c_plain (aCons (eVar 1) (aCons (eVar 2) (aCons (eVar 18) (aCons (eC (.int 2)) aNil))))) aNil))) [16, 18])) bNil)
  (bSeq (sSet 14 (eFl (eCall c_due (aCons (eVar 7) (aCons (eVar 11) (aCons (eVar 12) aNil))))))
  (sFor (i1 fR1 (eC (.int 2))) (gN 15) (l1_law c_same c_covers)))))))))))
def b_law (c_same : List D → M D) (c_covers : List D → M D) (c_due : List D → M D) (c_plain : List D → M D) (c_otherwise : List D → M D) (c_filled : List D → M D) (c_next : List D → M D) (c_value : List D → M D) (c_open_fills : List D → M D) (c_asked_names : List D → M D) (c_kinds : List D → M D) : Bd :=
  (bSeq (sSet 2 (eCall c_kinds (aCons (eVar 1) aNil)))
  (bSeq (sSet 3 (eCall c_asked_names (aCons (eVar 1) (aCons (eVar 2) aNil))))
  (bSeq (sSet 4 (e2 fDG (e2 fDG (eVar 3) (eC (.int 0))) (eC (.int 1))))
  (bSeq (sSet 5 (eShr (eLst aNil)))
  (bSeq (sSet 6 (eCall c_open_fills (aCons (eVar 1) (aCons (eVar 2) (aCons (eVar 3) (aCons (eVar 5) aNil))))))
  (bSeq (sSet 7 (eTup (aCons (eVar 6) (aCons (eCall c_value (aCons (eVar 1) (aCons (eVar 2) (aCons (eVar 5) (aCons (eVar 4) (aCons (eC (.int 2)) aNil)))))) (aCons (eTup (aCons (eC (.str ("skip" : Str))) aNil)) (aCons (eC (.int 0)) (aCons (eTup aNil) aNil)))))))
  (bSeq (sFor (i1 fR1 (eC (.int 4))) (gN 8) (l2_law c_next c_plain c_filled c_otherwise c_due c_same c_covers))
  (sRet (eC (.bl true))))))))))
abbrev ow_law : List Nat := [11]
theorem db_law {k : Nat} {a_law : Addr} {d_law : FuncData} {a_same : Addr} {d_same : FuncData} {c_same : List D → M D} {a_covers : Addr} {d_covers : FuncData} {c_covers : List D → M D} {a_due : Addr} {d_due : FuncData} {c_due : List D → M D} {a_plain : Addr} {d_plain : FuncData} {c_plain : List D → M D} {a_otherwise : Addr} {d_otherwise : FuncData} {c_otherwise : List D → M D} {a_filled : Addr} {d_filled : FuncData} {c_filled : List D → M D} {a_next : Addr} {d_next : FuncData} {c_next : List D → M D} {a_value : Addr} {d_value : FuncData} {c_value : List D → M D} {a_open_fills : Addr} {d_open_fills : FuncData} {c_open_fills : List D → M D} {a_asked_names : Addr} {d_asked_names : FuncData} {c_asked_names : List D → M D} {a_kinds : Addr} {d_kinds : FuncData} {c_kinds : List D → M D} (T : Bt mg) (C_same : Cal K mg "_law_same" s_same P_same a_same d_same) (G_same : FnOk P w K mg base CX0 k a_same d_same P_same (spM ⟨K, dk⟩ W c_same)) (C_covers : Cal K mg "covers" s_covers P_covers a_covers d_covers) (G_covers : FnOk P w K mg base CX0 k a_covers d_covers P_covers (spM ⟨K, dk⟩ W c_covers)) (C_due : Cal K mg "_law_due" s_due P_due a_due d_due) (G_due : FnOk P w K mg base CX0 k a_due d_due P_due (spM ⟨K, dk⟩ W c_due)) (C_plain : Cal K mg "_law_plain" s_plain P_plain a_plain d_plain) (G_plain : FnOk P w K mg base CX0 k a_plain d_plain P_plain (spM ⟨K, dk⟩ W c_plain)) (C_otherwise : Cal K mg "_law_otherwise" s_otherwise P_otherwise a_otherwise d_otherwise) (G_otherwise : FnOk P w K mg base CX0 k a_otherwise d_otherwise P_otherwise (spM ⟨K, dk⟩ W c_otherwise)) (C_filled : Cal K mg "_law_filled" s_filled P_filled a_filled d_filled) (G_filled : FnOk P w K mg base CX0 k a_filled d_filled P_filled (spM ⟨K, dk⟩ W c_filled)) (C_next : Cal K mg "_law_next" s_next P_next a_next d_next) (G_next : FnOk P w K mg base CX0 k a_next d_next P_next (spM ⟨K, dk⟩ W c_next)) (C_value : Cal K mg "_law_value" s_value P_value a_value d_value) (G_value : FnOk P w K mg base CX0 k a_value d_value P_value (spM ⟨K, dk⟩ W c_value)) (C_open_fills : Cal K mg "_law_open_fills" s_open_fills P_open_fills a_open_fills d_open_fills) (G_open_fills : FnOk P w K mg base CX0 k a_open_fills d_open_fills P_open_fills (spM ⟨K, dk⟩ W c_open_fills)) (C_asked_names : Cal K mg "_law_asked_names" s_asked_names P_asked_names a_asked_names d_asked_names) (G_asked_names : FnOk P w K mg base CX0 k a_asked_names d_asked_names P_asked_names (spM ⟨K, dk⟩ W c_asked_names)) (C_kinds : Cal K mg "_law_kinds" s_kinds P_kinds a_kinds d_kinds) (G_kinds : FnOk P w K mg base CX0 k a_kinds d_kinds P_kinds (spM ⟨K, dk⟩ W c_kinds)) (cdv : Value) (A : Around) (outer : List Env) (s : Shared) (H : Hp) (E : XK) (H0 R0 : Hp) (hr : Room k (A.deeper (PyProof.Rows.envOfC "law" (defScope s_law) s.heap.objs.size a_law cdv))) :
    DB (cxOf CX0 P w K mg base N_law "law" (defScope s_law) a_law cdv A outer s H E).nox ⟨⟨K, dk⟩, W, ow_law, H0, R0⟩ ((defBody s_law).drop 1) (b_law c_same c_covers c_due c_plain c_otherwise c_filled c_next c_value c_open_fills c_asked_names c_kinds) :=
    (db_cons (ds_set (i := 2) sc_law.nd rfl (Or.inr rfl) (d_call G_kinds (hr.mono (by omega)) (by rfl) C_kinds.m C_kinds.F.kp C_kinds.b (da_cons (d_var (pv 1)) da_nil)))
    (db_cons (ds_set (i := 3) sc_law.nd rfl (Or.inl rfl) (d_call G_asked_names (hr.mono (by omega)) (by rfl) C_asked_names.m C_asked_names.F.kp C_asked_names.b (da_cons (d_var (pv 1)) (da_cons (d_var (pv 2)) da_nil))))
    (db_cons (ds_set (i := 4) sc_law.nd rfl (Or.inl rfl) (d_ixD hr.units (d_ixD hr.units (d_var (pv 3)) d_int) d_int))
    (db_cons (ds_set (i := 5) sc_law.nd rfl (Or.inr rfl) (d_shr (do_lst da_nil aNil_len)))
    (db_cons (ds_set (i := 6) sc_law.nd rfl (Or.inl rfl) (d_call G_open_fills (hr.mono (by omega)) (by rfl) C_open_fills.m C_open_fills.F.kp C_open_fills.b (da_cons (d_var (pv 1)) (da_cons (d_var (pv 2)) (da_cons (d_var (pv 3)) (da_cons (d_var (pv 5)) da_nil))))))
    (db_cons (ds_set (i := 7) sc_law.nd rfl (Or.inl rfl) (d_tup (da_cons (d_var (pv 6)) (da_cons (d_call G_value (hr.mono (by omega)) (by rfl) C_value.m C_value.F.kp C_value.b (da_cons (d_var (pv 1)) (da_cons (d_var (pv 2)) (da_cons (d_var (pv 5)) (da_cons (d_var (pv 4)) (da_cons d_int da_nil)))))) (da_cons (d_tup (da_cons d_str da_nil) (aCons_len aNil_len)) (da_cons d_int (da_cons (d_tup da_nil aNil_len) da_nil))))) (aCons_len (aCons_len (aCons_len (aCons_len (aCons_len aNil_len)))))))
    (db_cons (ds_for (di_r1 d_int (by rfl) T.t_range) (dg_name (pg_name (i := 8) sc_law.nd rfl (Or.inl rfl))) (db_cons (ds_set (i := 9) sc_law.nd rfl (Or.inr rfl) (d_call G_next (hr.mono (by omega)) (by rfl) C_next.m C_next.F.kp C_next.b (da_cons (d_var (pv 1)) da_nil)))
    (db_cons (ds_set (i := 10) sc_law.nd rfl (Or.inr rfl) (d_lc (own := [("_law_at", 13)]) sc_law.nd (di_r1 (d_lenS (by rfl) T.t_len (by decide +kernel) (d_var (pv 5))) (by rfl) T.t_range) (blkOk_by (own := [("_law_at", 13)]) (N := N_law) (sc := defScope s_law) (by decide +kernel)) (fun _ _ _ _ _ => (dg_name (pg_name (i := 13) sc_law.nd rfl (Or.inl rfl)))) (fun _ _ _ _ _ => dts_nil) (fun _ _ _ _ _ => (d_tup (da_cons (d_callT call_str_int c_str (by rfl) T.t_str (by decide +kernel) (da_cons (d_add (d_var (pv 13)) d_int) da_nil)) (da_cons (d_call G_plain (hr.mono (by omega)) (by rfl) C_plain.m C_plain.F.kp C_plain.b (da_cons (d_var (pv 1)) (da_cons (d_var (pv 2)) (da_cons (d_ixS hr.units (d_var (pv 5)) (d_var (pv 13))) (da_cons (d_mod (d_div (d_var (pv 9)) d_int) d_int) da_nil))))) da_nil)) (aCons_len (aCons_len aNil_len))))))
    (db_cons (ds_setLc (i := 11) (own := [("_law_name", 16), ("_law_thing", 17)]) sc_law.nd rfl rfl (sw_true rfl rfl rfl (by decide +kernel)) (di_seq (d_var (pv 6))) (blkOk_by (own := [("_law_name", 16), ("_law_thing", 17)]) (N := N_law) (sc := defScope s_law) (by decide +kernel)) (fun _ _ _ _ _ => (dg_tup (dgs_cons (dg_name (pg_name (i := 16) sc_law.nd rfl (Or.inl rfl))) (dgs_cons (dg_name (pg_name (i := 17) sc_law.nd rfl (Or.inl rfl))) dgs_nil)))) (fun _ _ _ _ _ => dts_nil) (fun _ _ _ _ _ => (d_tup (da_cons (d_var (pv 16)) (da_cons (d_call G_filled (hr.mono (by omega)) (by rfl) C_filled.m C_filled.F.kp C_filled.b (da_cons (d_var (pv 17)) (da_cons (d_var (pv 10)) da_nil))) da_nil)) (aCons_len (aCons_len aNil_len)))))
    (db_cons (ds_set (i := 12) sc_law.nd rfl (Or.inl rfl) (d_call G_filled (hr.mono (by omega)) (by rfl) C_filled.m C_filled.F.kp C_filled.b (da_cons (d_ixD hr.units (d_var (pv 7)) d_int) (da_cons (d_var (pv 10)) da_nil))))
    (db_cons (ds_set (i := 13) sc_law.nd rfl (Or.inl rfl) (d_mod (d_div (d_var (pv 9)) d_int) (d_callB call_len (c_len rfl) (by rfl) T.t_len (by decide +kernel) (da_cons (d_var (pv 3)) da_nil))))
    (db_cons (ds_if (dt_eq hr.units (d_mod (d_var (pv 9)) d_int) d_int) (db_one (ds_putL (pv 11) (d_var (pv 13)) (d_open (d_tup (da_cons (d_ixD hr.units (d_ixD hr.units (d_var (pv 3)) (d_var (pv 13))) d_int) (da_cons (d_call G_otherwise (hr.mono (by omega)) (by rfl) C_otherwise.m C_otherwise.F.kp C_otherwise.b (da_cons (d_var (pv 1)) (da_cons (d_var (pv 2)) (da_cons (d_ixD hr.units (d_ixD hr.units (d_var (pv 11)) (d_var (pv 13))) d_int) (da_cons (d_ixD hr.units (d_ixD hr.units (d_var (pv 3)) (d_var (pv 13))) d_int) da_nil))))) da_nil)) (aCons_len (aCons_len aNil_len)))))) db_nil)
    (db_cons (ds_if (dt_eq hr.units (d_mod (d_var (pv 9)) d_int) d_int) (db_one (ds_set (i := 12) sc_law.nd rfl (Or.inl rfl) (d_call G_otherwise (hr.mono (by omega)) (by rfl) C_otherwise.m C_otherwise.F.kp C_otherwise.b (da_cons (d_var (pv 1)) (da_cons (d_var (pv 2)) (da_cons (d_var (pv 12)) (da_cons (d_var (pv 4)) da_nil))))))) db_nil)
    (db_cons (ds_if (dt_eq hr.units (d_mod (d_var (pv 9)) d_int) d_int) (db_one (ds_setLc (i := 11) (own := [("_law_name", 16), ("_law_own", 18)]) sc_law.nd rfl rfl (sw_true rfl rfl rfl (by decide +kernel)) (di_seq (d_var (pv 3))) (blkOk_by (own := [("_law_name", 16), ("_law_own", 18)]) (N := N_law) (sc := defScope s_law) (by decide +kernel)) (fun _ _ _ _ _ => (dg_tup (dgs_cons (dg_name (pg_name (i := 16) sc_law.nd rfl (Or.inl rfl))) (dgs_cons (dg_name (pg_name (i := 18) sc_law.nd rfl (Or.inl rfl))) dgs_nil)))) (fun _ _ _ _ _ => dts_nil) (fun _ _ _ _ _ => (d_tup (da_cons (d_var (pv 16)) (da_cons (d_call G_plain (hr.mono (by omega)) (by rfl) C_plain.m C_plain.F.kp C_plain.b (da_cons (d_var (pv 1)) (da_cons (d_var (pv 2)) (da_cons (d_var (pv 18)) (da_cons d_int da_nil))))) da_nil)) (aCons_len (aCons_len aNil_len)))))) db_nil)
    (db_cons (ds_set (i := 14) sc_law.nd rfl (Or.inl rfl) (d_open (d_call G_due (hr.mono (by omega)) (by rfl) C_due.m C_due.F.kp C_due.b (da_cons (d_var (pv 7)) (da_cons (d_var (pv 11)) (da_cons (d_var (pv 12)) da_nil))))))
    (db_one (ds_for (di_r1 d_int (by rfl) T.t_range) (dg_name (pg_name (i := 15) sc_law.nd rfl (Or.inl rfl))) (db_one (ds_if (dt_open (dt_not (dt_tr (d_call G_same (hr.mono (by omega)) (by rfl) C_same.m C_same.F.kp C_same.b (da_cons (d_call G_covers (hr.mono (by omega)) (by rfl) C_covers.m C_covers.F.kp C_covers.b (da_cons (d_var (pv 7)) (da_cons (d_callT (call_tuple_of.or (call_tup_dR rfl)) (c_tupD rfl) (by rfl) T.t_tuple (by decide +kernel) (da_cons (d_var (pv 11)) da_nil)) (da_cons (d_var (pv 12)) da_nil)))) (da_cons (d_var (pv 14)) da_nil)))))) (db_one (ds_ret d_bl)) db_nil))))))))))))))
    (db_one (ds_ret d_bl)))))))))
end Sh


set_option Elab.async false
set_option linter.all false
set_option maxRecDepth 100000
namespace Sh
open PySem L2 Nf
theorem nx_e {f : Nat → Int} {n : Nat} {ms : List D} (h : n < 2 ^ 40) : nxS f [.deck] (n, ms) = some (.int (f n), n + 1, ms) := if_pos h
theorem mul_i {i j : Int} (h : (-(2 ^ 64) < i ∧ i < 2 ^ 64) ∨ (-(2 ^ 64) < j ∧ j < 2 ^ 64)) : fMul (.int i) (.int j) = some (.int (i * j)) := if_pos h
/-! words -/
def letS : Str := "abcdefghijklmnopqrstuvwxyz"
def lc (i : Int) : Nat := (L2.atI letS.cps.toList i).getD 0
theorem ix_let {i : Int} (h0 : 0 ≤ i) (h1 : i < 26) : fDG (.str letS) (.int i) = some (.str ⟨#[lc i]⟩) ∧ lc i < 128 := by
  have hl : letS.cps.toList.length = 26 := by decide +kernel
  have hk : i.toNat < letS.cps.toList.length := by omega
  have ha : letS.cps.toList.all (· < 128) = true := by decide +kernel
  have e : L2.atI letS.cps.toList i = some letS.cps.toList[i.toNat] := by
    unfold L2.atI ixN
    rw [if_pos h0, if_pos (by omega)]
    exact List.getElem?_eq_getElem hk
  have e2 : lc i = letS.cps.toList[i.toNat] := by unfold lc; rw [e]; rfl
  refine ⟨?_, by rw [e2]; exact of_decide_eq_true (List.all_eq_true.mp ha _ (List.getElem_mem hk))⟩
  show (L2.atI letS.cps.toList i).map _ = _
  rw [e, e2]; rfl
theorem lc_inj {i j : Int} (hi : 0 ≤ i ∧ i < 26) (hj : 0 ≤ j ∧ j < 26) (h : lc i = lc j) : i = j := by
  have key : ∀ a b : Fin 26, lc (a.val : Nat) = lc (b.val : Nat) → a = b := by decide +kernel
  have := key ⟨i.toNat, by omega⟩ ⟨j.toNat, by omega⟩ (by
    show lc (i.toNat : Nat) = lc (j.toNat : Nat)
    rw [show ((i.toNat : Nat) : Int) = i by omega, show ((j.toNat : Nat) : Int) = j by omega]; exact h)
  have := congrArg Fin.val this
  dsimp only at this
  omega
theorem okS_app {x y : Str} (h : okS x) (k : okS y) : okS (x ++ y) := by
  show (x.cps ++ y.cps).all _ = true
  rw [Array.all_append]
  exact Bool.and_eq_true_iff.mpr ⟨h, k⟩
theorem okS_one {c : Nat} (h : c < 128) : okS ⟨#[c]⟩ := by
  show (#[c] : Array Nat).all _ = true
  simp; omega
theorem mul_s {c : Nat} {j : Int} (hc : c < 128) (h0 : 0 ≤ j) (h1 : j < 3) : ∃ x, fMul (.str ⟨#[c]⟩) (.int j) = some (.str x) ∧ okS x ∧ x.length ≤ 2 := by
  have key : okS (Txt.mul ⟨#[c]⟩ j) ∧ (Txt.mul ⟨#[c]⟩ j).length ≤ 2 := by
    have h : j = 0 ∨ j = 1 ∨ j = 2 := by omega
    rcases h with rfl | rfl | rfl
    · exact ⟨by show (#[] : Array Nat).all _ = true; simp, by show (0 : Nat) ≤ 2; decide⟩
    · exact ⟨okS_one hc, by show (1 : Nat) ≤ 2; decide⟩
    · refine ⟨?_, by show (2 : Nat) ≤ 2; decide⟩
      show (#[c, c] : Array Nat).all _ = true
      simp; omega
  refine ⟨_, if_pos ⟨by show 1 ≤ 16; decide, by omega, by omega, by rw [PySem.sizeLine_eq]; omega⟩, key.1, key.2⟩
def F_word : List D → M D := fnA 3 5 b_word
theorem word_f {s : Str} {b k : Int} {n : Sx} (hs : okS s) (hl : s.length ≤ 4) (hb : 0 ≤ b ∧ b < 1000) (hk : 0 ≤ k ∧ k < 1000) : ∃ t, F_word [.str s, .int b, .int k] n = some (.str (s ++ ⟨#[lc ((b + 5 * k) % 26)]⟩ ++ t), n) ∧ okS (s ++ ⟨#[lc ((b + 5 * k) % 26)]⟩ ++ t) ∧ (s ++ (⟨#[lc ((b + 5 * k) % 26)]⟩ : Str) ++ t).length ≤ 10 := by
  obtain ⟨e1, c1⟩ := ix_let (i := b / 26 % 26) (mod_range (by decide)).1 (mod_range (by decide)).2
  obtain ⟨e2', c2⟩ := ix_let (i := (b + 5 * k) % 26) (mod_range (by decide)).1 (mod_range (by decide)).2
  obtain ⟨x, e3, o3, l3⟩ := mul_s (j := k * b % 3) c1 (mod_range (by decide)).1 (mod_range (by decide)).2
  have l1 : (⟨#[lc ((b + 5 * k) % 26)]⟩ : Str).length = 1 := rfl
  have la : (s ++ (⟨#[lc ((b + 5 * k) % 26)]⟩ : Str)).length = s.length + 1 := len_append _ _
  refine ⟨x, fn_ret rfl ?_, okS_app (okS_app hs (okS_one c2)) o3, by rw [len_append, la]; omega⟩
  show b_word [some (.str s), some (.int b), some (.int k), none, none] n = _
  unfold b_word
  refine (bSeq_n (sSet_n rfl)).trans ((bSeq_n (sSet_n (d := .str x) (m := n) ?_)).trans (sRet_r ?_))
  · refine e2_e (e2_e (eVar_e rfl) (e2_e (e2_e (eVar_e rfl) rfl (div_i ⟨by decide, by decide⟩)) rfl (mod_i (by decide))) e1) (e2_e (e2_e (eVar_e rfl) (eVar_e rfl) (z := .int (k * b)) (mul_i (.inl ⟨by omega, by omega⟩))) rfl (mod_i (by decide))) e3
  · refine e2_e (e2_e (eVar_e rfl) (e2_e (eVar_e rfl) (e2_e (e2_e (eVar_e rfl) (e2_e rfl (eVar_e rfl) (z := .int (5 * k)) (mul_i (.inl ⟨by decide, by decide⟩))) (z := .int (b + 5 * k)) rfl) rfl (mod_i (by decide))) e2') (z := .str (s ++ ⟨#[lc ((b + 5 * k) % 26)]⟩)) (add_str (by omega))) (eVar_e rfl) (add_str (by rw [la]; omega))
theorem word_ne {c c' : Nat} {t t' : Str} (h : ("m" : Str) ++ ⟨#[c]⟩ ++ t = ("m" : Str) ++ ⟨#[c']⟩ ++ t') : c = c' := by
  have e := congrArg (fun x : Str => x.cps[1]?) h
  have key : ∀ (c : Nat) (t : Str), (("m" : Str) ++ (⟨#[c]⟩ : Str) ++ t).cps[1]? = some c := fun c t => by
    show ((("m" : Str).cps ++ #[c]) ++ t.cps)[1]? = some c
    have hm : ("m" : Str).cps = #[109] := by decide +kernel
    rw [hm, Array.getElem?_append_left (by show 1 < 2; decide)]
    rfl
  have e : (Str.ofString "m" ++ { cps := #[c] } ++ t).cps[1]? = (Str.ofString "m" ++ { cps := #[c'] } ++ t').cps[1]? := e
  rw [key, key] at e
  exact Option.some.inj e
/-! kinds -/
structure Mk where
  w : Str
  ps : List Str
structure Kd where
  k : Str
  ms : List Mk
def Mk.d (m : Mk) : D := .tup [.str m.w, .tup (m.ps.map .str)]
def Kd.d (k : Kd) : D := .tup [.str k.k, .tup (k.ms.map Mk.d)]
def MkOk (ns : List Str) (m : Mk) : Prop := okS m.w ∧ m.ps.length ≤ 3 ∧ ∀ p ∈ m.ps, p ∈ ns ∨ p = "truth"
def Uq (ms : List Mk) : Prop := ∀ (i j : Nat) (m m' : Mk), ms[i]? = some m → ms[j]? = some m' → m.w = m'.w → i = j
def KdOk (ns : List Str) (k : Kd) : Prop := okS k.k ∧ 0 < k.ms.length ∧ k.ms.length ≤ 3 ∧ (∀ m ∈ k.ms, MkOk ns m) ∧ (∀ m, k.ms.head? = some m → m.ps = []) ∧ Uq k.ms
def F_makers : List D → M D := fnA 2 4 b_makers
def msOf (ks : List Kd) (k : Str) : List Mk := match ks with
  | [] => [⟨"yes", []⟩, ⟨"no", []⟩]
  | q :: r => if q.k = k then q.ms else msOf r k
theorem makers_loop {K : D} {k : Str} {n : Sx} : ∀ (ks : List Kd) (x2 x3 : Option D), ∃ fl, fM (gT (gsC (gN 2) (gsC (gN 3) gsN))) l1_makers (ks.map Kd.d) [some K, some (.str k), x2, x3] n = some (fl, n) ∧
    (fl = .ret (.tup ((msOf ks k).map Mk.d)) ∨ (msOf ks k = [⟨"yes", []⟩, ⟨"no", []⟩] ∧ ∃ y2 y3, fl = .next [some K, some (.str k), y2, y3]))
  | [], x2, x3 => ⟨_, rfl, .inr ⟨rfl, x2, x3, rfl⟩⟩
  | q :: r, x2, x3 => by
    have g : (gT (gsC (gN 2) (gsC (gN 3) gsN))) q.d [some K, some (.str k), x2, x3] = some [some K, some (.str k), some (.str q.k), some (.tup (q.ms.map Mk.d))] := rfl
    by_cases h : q.k = k
    · refine ⟨_, fM_ret g ((sIf_t (tEq_t (eVar_e rfl) (eVar_e rfl) h)).trans (sRet_r (eVar_e rfl))), .inl ?_⟩
      show _ = Fl.ret (.tup ((if q.k = k then q.ms else msOf r k).map Mk.d))
      rw [if_pos h]
    · obtain ⟨fl, h1, h2⟩ := makers_loop r (some (.str q.k)) (some (.tup (q.ms.map Mk.d)))
      refine ⟨fl, (by rw [List.map_cons]; exact (fM_next g ((sIf_f (tEq_f (eVar_e rfl) (eVar_e rfl) h)).trans rfl)).trans h1), ?_⟩
      have e : msOf (q :: r) k = msOf r k := if_neg h
      rw [e]
      exact h2
theorem makers_f {ks : List Kd} {k : Str} {n : Sx} (h : ks.length ≤ 100) : F_makers [.tup (ks.map Kd.d), .str k] n = some (.tup ((msOf ks k).map Mk.d), n) := by
  obtain ⟨fl, h1, h2⟩ := makers_loop (K := .tup (ks.map Kd.d)) (k := k) (n := n) ks none none
  refine fn_ret rfl ?_
  show b_makers [some (.tup (ks.map Kd.d)), some (.str k), none, none] n = _
  unfold b_makers
  have hF : sFor (iSeq (eVar 0)) (gT (gsC (gN 2) (gsC (gN 3) gsN))) l1_makers [some (.tup (ks.map Kd.d)), some (.str k), none, none] n = some (fl, n) := (sFor_i (iSeq_e (eVar_e rfl) (items_tup (by rw [List.length_map]; omega)))).trans h1
  rcases h2 with rfl | ⟨e, y2, y3, rfl⟩
  · exact bSeq_r hF
  · rw [e]
    exact (bSeq_n hF).trans (sRet_r (eTup_e (aCons_e (eTup_e (aCons_e rfl (aCons_e (eTup_e aNil_e) aNil_e))) (aCons_e (eTup_e (aCons_e rfl (aCons_e (eTup_e aNil_e) aNil_e))) aNil_e))))
end Sh


set_option Elab.async false
set_option linter.all false
set_option maxRecDepth 100000
namespace Sh
open PySem L2 Nf
theorem atI_in {α : Type} {xs : List α} {i : Int} (h0 : 0 ≤ i) (h1 : i < xs.length) : ∃ x, L2.atI xs i = some x ∧ x ∈ xs ∧ xs[i.toNat]? = some x := by
  have hk : i.toNat < xs.length := by omega
  refine ⟨xs[i.toNat], ?_, List.getElem_mem hk, List.getElem?_eq_getElem hk⟩
  unfold L2.atI ixN
  rw [if_pos h0, if_pos h1]
  exact List.getElem?_eq_getElem hk
theorem ix_lst {α : Type} {f : α → D} {xs : List α} {i : Int} (h0 : 0 ≤ i) (h1 : i < xs.length) : ∃ x, fDG (.lst (xs.map f)) (.int i) = some (f x) ∧ x ∈ xs ∧ xs[i.toNat]? = some x := by
  obtain ⟨y, e, m, g⟩ := atI_in (xs := xs.map f) h0 (by rw [List.length_map]; exact h1)
  rw [List.getElem?_map] at g
  obtain ⟨x, hx, rfl⟩ := Option.map_eq_some_iff.mp g
  exact ⟨x, e, List.mem_of_getElem? hx, hx⟩
theorem ix_tup' {α : Type} {f : α → D} {xs : List α} {i : Int} (h0 : 0 ≤ i) (h1 : i < xs.length) : ∃ x, fDG (.tup (xs.map f)) (.int i) = some (f x) ∧ x ∈ xs ∧ xs[i.toNat]? = some x := ix_lst (f := f) h0 h1
theorem rngD_get {lo : Int} {k j : Nat} {d : D} (h : (rngD lo k)[j]? = some d) : d = .int (lo + j) ∧ j < k := by
  have hj : j < k := by
    have := (List.getElem?_eq_some_iff.mp h).1
    rwa [rngD_len] at this
  unfold rngD at h
  rw [List.getElem?_map, List.getElem?_range hj] at h
  cases h
  exact ⟨rfl, hj⟩
theorem r1_e {j : Int} (h : 0 ≤ j ∧ j ≤ 1000) : fR1 (.int j) = some (rngD 0 j.toNat) := if_pos (by omega)
theorem flat_strs' : ∀ ps : List Str, D.flatA (ps.map .str) = true
  | [] => rfl
  | p :: r => by simp only [List.map_cons, D.flatA, D.flat, flat_strs' r, Bool.and_self]
section
variable {f : Nat → Int} (hf : ∀ n, 0 ≤ f n ∧ f n < 1000)
include hf
theorem parts_loop {ns : List Str} {kk : Str} {x1 x2 x4 x5 x7 x8 x9 x11 x12 : Option D} {n r : Nat} {st : List D} (hk : kk ∈ ns) (hns : ns.length ≤ 3) (hr : r ≤ 3) (hn : n + 3 ≤ 2 ^ 40) :
    ∃ (ps : List Str) (y11 y12 : Option D) (m : Nat), fM (gN 11) (l1_kinds (nxS f)) (rngD 0 r) [some .deck, x1, x2, some (.lst (ns.map .str)), x4, x5, some (.str kk), x7, x8, x9, some (.lst []), x11, x12] (n, st) = some (.next [some .deck, x1, x2, some (.lst (ns.map .str)), x4, x5, some (.str kk), x7, x8, x9, some (.lst (ps.map .str)), y11, y12], m, st) ∧ m ≤ n + 3 ∧ ps.length = r ∧ ∀ p ∈ ps, p ∈ ns ∨ p = "truth" := by
  obtain ⟨ρ', m, h1, ps, y11, y12, rfl, h2, h3, h4⟩ := fM_inv (g := gN 11) (b := l1_kinds (nxS f)) (fun i ρ m => ∃ (ps : List Str) (y11 y12 : Option D), ρ = [some .deck, x1, x2, some (.lst (ns.map .str)), x4, x5, some (.str kk), x7, x8, x9, some (.lst (ps.map .str)), y11, y12] ∧ m = (n + i, st) ∧ ps.length = i ∧ ∀ p ∈ ps, p ∈ ns ∨ p = "truth") (rngD 0 r) 0
    [some .deck, x1, x2, some (.lst (ns.map .str)), x4, x5, some (.str kk), x7, x8, x9, some (.lst []), x11, x12] (n, st) ⟨[], x11, x12, rfl, rfl, rfl, by simp⟩ (by
      rintro j d ρ m hj ⟨ps, y11, y12, rfl, rfl, hl, hp⟩
      obtain ⟨rfl, hjr⟩ := rngD_get hj
      have hfm := hf (n + (0 + j))
      have hml : (0 : Int) < (ns.length : Int) + 3 := by omega
      have hr2 := mod_range (k := f (n + (0 + j))) hml
      obtain ⟨p, e1, hpm, _⟩ := ix_lst (f := D.str) (xs := [kk, kk] ++ ns ++ [("truth" : Str)]) (i := f (n + (0 + j)) % ((ns.length : Int) + 3)) hr2.1 (by rw [List.length_append, List.length_append]; show _ < ((2 + ns.length + 1 : Nat) : Int); have := hr2.2; omega)
      refine ⟨_, [some .deck, x1, x2, some (.lst (ns.map .str)), x4, x5, some (.str kk), x7, x8, x9, some (.lst ((ps ++ [p]).map .str)), some (.int (0 + j)), some (.int (f (n + (0 + j))))], (n + (0 + j) + 1, st), rfl, ?_, ps ++ [p], _, _, rfl, rfl, by rw [List.length_append, hl]; rfl, ?_⟩
      · unfold l1_kinds
        refine (bSeq_n (sSet_n (eCall_e (aCons_e (eVar_e rfl) aNil_e) (nx_e (by omega))))).trans ?_
        rw [List.map_append]
        refine sApp_n (xs := ps.map .str) (d := .str p) rfl (e2_e (e2_e (e2_e (eLst_e (aCons_e (eVar_e rfl) (aCons_e (eVar_e rfl) aNil_e))) (eVar_e rfl) (add_lst (by simp; omega))) (eLst_e (aCons_e rfl aNil_e)) (add_lst (by simp; omega)))
          (e2_e (eVar_e rfl) (e2_e (eF_e (aCons_e (eVar_e rfl) aNil_e) rfl) rfl (z := .int ((ns.length : Int) + 3)) (by show some (D.int _) = _; rw [List.length_map])) (mod_i hml)) ?_) (by rw [List.length_map]; omega)
        rw [← e1, List.map_append, List.map_append]; rfl
      · intro q hq
        rcases List.mem_append.mp hq with h | h
        · exact hp q h
        · have : q = p := List.mem_singleton.mp h
          subst this
          simp only [List.mem_append, List.mem_cons, List.not_mem_nil, or_false] at hpm
          rcases hpm with (h | h) | h
          · exact .inl (by rcases h with h | h <;> (rw [h]; exact hk))
          · exact .inl h
          · exact .inr h)
  rw [rngD_len, Nat.zero_add] at h3 h2
  subst h2
  exact ⟨ps, y11, y12, _, h1, by omega, h3, h4⟩
theorem mks_loop {ns : List Str} {kk : Str} {x1 x4 x8 x9 x10 x11 x12 : Option D} {b : Int} {n r M0 : Nat} {st : List D} (hk : kk ∈ ns) (hns : ns.length ≤ 3) (hr : r ≤ 3) (hM : M0 ≤ 100) (hb : 0 ≤ b ∧ b < 1000) (hn : n + 12 ≤ 2 ^ 40) :
    ∃ (ms : List Mk) (y9 y10 y11 y12 : Option D) (m : Nat), fM (gN 9) (l2_kinds (nxS f) F_word) (rngD 0 r) [some .deck, x1, some (.int b), some (.lst (ns.map .str)), x4, some (.int (M0 : Nat)), some (.str kk), some (.lst []), x8, x9, x10, x11, x12] (n, st) =
      some (.next [some .deck, x1, some (.int b), some (.lst (ns.map .str)), x4, some (.int ((M0 + r : Nat))), some (.str kk), some (.lst (ms.map Mk.d)), x8, y9, y10, y11, y12], m, st) ∧ m ≤ n + 12 ∧ ms.length = r ∧ (∀ q ∈ ms, MkOk ns q) ∧ (∀ q, ms.head? = some q → q.ps = []) ∧ Uq ms := by
  obtain ⟨ρ', m0, h1, ms, y9, y10, y11, y12, m, rfl, rfl, h2, h3, h4, h5, h6⟩ := fM_inv (g := gN 9) (b := l2_kinds (nxS f) F_word) (fun i ρ m0 => ∃ (ms : List Mk) (y9 y10 y11 y12 : Option D) (m : Nat), ρ = [some .deck, x1, some (.int b), some (.lst (ns.map .str)), x4, some (.int ((M0 + i : Nat))), some (.str kk), some (.lst (ms.map Mk.d)), x8, y9, y10, y11, y12] ∧ m0 = (m, st) ∧ m ≤ n + 4 * i ∧ ms.length = i ∧ (∀ q ∈ ms, MkOk ns q) ∧ (∀ q, ms.head? = some q → q.ps = []) ∧ ∀ (i : Nat) (q : Mk), ms[i]? = some q → ∃ t, q.w = ("m" : Str) ++ ⟨#[lc ((b + 5 * ((M0 + i : Nat) : Int)) % 26)]⟩ ++ t) (rngD 0 r) 0
    [some .deck, x1, some (.int b), some (.lst (ns.map .str)), x4, some (.int (M0 : Nat)), some (.str kk), some (.lst []), x8, x9, x10, x11, x12] (n, st) ⟨[], x9, x10, x11, x12, n, rfl, rfl, by omega, rfl, by simp, by simp, fun i q h => by simp at h⟩ (by
      rintro j d ρ m0 hj ⟨ms, y9, y10, y11, y12, m, rfl, rfl, hm, hl, hq, hh, hw⟩
      obtain ⟨rfl, hjr⟩ := rngD_get hj
      have hfm := hf m
      have hr6 := mod_range (k := f m) (m := 6) (by decide)
      obtain ⟨c, e1, hc, _⟩ := ix_lst (f := D.int) (xs := [0, 1, 1, 2, 2, 3]) (i := f m % 6) hr6.1 (by simpa using hr6.2)
      have hc3 : 0 ≤ c ∧ c ≤ 3 := by
        simp only [List.mem_cons, List.not_mem_nil, or_false] at hc
        omega
      have eG : ∀ ρ : Sd, ∀ k : Sx, ρ[9]? = some (some (.int (0 + j))) → eF (f1 fInt) (aCons (e2 fGt (eVar 9) (eC (.int 0))) aNil) ρ k = some (.int (if decide ((0 : Int) < 0 + j) = true then 1 else 0), k) := fun ρ k h => eF_e (aCons_e (e2_e (eVar_e h) rfl (z := .bl (decide ((0 : Int) < 0 + j))) rfl) aNil_e) rfl
      have hcz : 0 ≤ c * (if decide ((0 : Int) < 0 + j) = true then 1 else 0) ∧ c * (if decide ((0 : Int) < 0 + j) = true then 1 else 0) ≤ 3 ∧ (j = 0 → c * (if decide ((0 : Int) < 0 + j) = true then 1 else 0) = 0) := by
        by_cases hj0 : (0 : Int) < 0 + j
        · rw [if_pos (decide_eq_true hj0)]; omega
        · rw [if_neg (by simp at hj0 ⊢; omega)]; omega
      obtain ⟨ps, z11, z12, m', p1, p2, p3, p4⟩ := parts_loop hf (ns := ns) (kk := kk) (x1 := x1) (x2 := some (.int b)) (x4 := x4) (x5 := some (.int ((M0 + (0 + j) : Nat)))) (x7 := some (.lst (ms.map Mk.d))) (x8 := x8) (x9 := some (.int (0 + j))) (x11 := y11) (x12 := y12) (n := m + 1) (st := st)
        (r := (c * (if decide ((0 : Int) < 0 + j) = true then 1 else 0)).toNat) hk hns (by omega) (by omega)
      obtain ⟨wt, ex, ox, lx⟩ := word_f (s := "m") (b := b) (k := ((M0 + (0 + j) : Nat) : Int)) (n := (m', st)) (by decide +kernel) (by decide) hb (by omega)
      generalize hxw : ("m" : Str) ++ ⟨#[lc ((b + 5 * ((M0 + (0 + j) : Nat) : Int)) % 26)]⟩ ++ wt = x at ex ox lx
      refine ⟨_, [some .deck, x1, some (.int b), some (.lst (ns.map .str)), x4, some (.int ((M0 + (0 + j + 1) : Nat))), some (.str kk), some (.lst ((ms ++ [(⟨x, ps⟩ : Mk)]).map Mk.d)), x8, some (.int (0 + j)), some (.lst (ps.map .str)), z11, z12], (m', st), rfl, ?_, ms ++ [⟨x, ps⟩], _, _, _, _, m', rfl, rfl, by omega, by rw [List.length_append, hl]; rfl, ?_, ?_, ?_⟩
      · unfold l2_kinds
        refine (bSeq_n (sSet_n (eLst_e aNil_e))).trans ?_
        refine (bSeq_n ((sFor_i (i1_e (e2_e (e2_e (eLst_e (aCons_e rfl (aCons_e rfl (aCons_e rfl (aCons_e rfl (aCons_e rfl (aCons_e rfl aNil_e))))))) (e2_e (eCall_e (aCons_e (eVar_e rfl) aNil_e) (nx_e (ms := st) (by omega))) (y := .int 6) rfl (mod_i (by decide))) e1) (eG _ _ rfl) (mul_i (.inl ⟨by omega, by omega⟩))) (r1_e (by omega)))).trans p1)).trans ?_
        refine (bSeq_n (sApp_n (xs := ms.map Mk.d) (d := Mk.d ⟨x, ps⟩) (m := (m', st)) rfl (eFl_e (eTup_e (aCons_e (eCall_e (aCons_e rfl (aCons_e (eVar_e rfl) (aCons_e (eVar_e rfl) aNil_e))) ex) (aCons_e (eF_e (aCons_e (eVar_e rfl) aNil_e) rfl) aNil_e))) ?_) (by rw [List.length_map]; omega))).trans ?_
        · show D.flat (.tup [.str x, .tup (ps.map .str)]) = true
          simp only [D.flat, D.flatA, flat_strs', Bool.and_self]
        · refine (sSet_n (e2_e (eVar_e rfl) rfl (z := .int ((M0 + (0 + j) : Nat) + 1)) rfl)).trans ?_
          rw [List.map_append]
          rfl
      · intro q hq'
        rcases List.mem_append.mp hq' with h | h
        · exact hq q h
        · have : q = ⟨x, ps⟩ := List.mem_singleton.mp h
          subst this
          exact ⟨ox, by show ps.length ≤ 3; omega, p4⟩
      · intro q hq'
        cases ms with
        | nil =>
          have : q = ⟨x, ps⟩ := by simpa using hq'.symm
          subst this
          have hj0 : j = 0 := by simp at hl; omega
          show ps = []
          have := hcz.2.2 hj0
          rw [this] at p3
          exact List.length_eq_zero_iff.mp (by simpa using p3)
        | cons a r => exact hh q (by simpa using hq')
      · intro i q hq'
        by_cases hi : i < ms.length
        · rw [List.getElem?_append_left hi] at hq'
          exact hw i q hq'
        · have hi2 : i = 0 + j := by
            have := (List.getElem?_eq_some_iff.mp hq').1
            rw [List.length_append] at this
            simp at this; omega
          subst hi2
          rw [List.getElem?_append_right (by omega), hl, Nat.sub_self] at hq'
          cases hq'
          exact ⟨wt, hxw.symm⟩)
  rw [rngD_len, Nat.zero_add] at h3 h2
  refine ⟨ms, y9, y10, y11, y12, m, ?_, by omega, h3, h4, h5, fun i j q q' hi hj e => ?_⟩
  rotate_left
  · obtain ⟨t, e1⟩ := h6 i q hi
    obtain ⟨t', e2⟩ := h6 j q' hj
    rw [e1, e2] at e
    have hi' := (List.getElem?_eq_some_iff.mp hi).1
    have hj' := (List.getElem?_eq_some_iff.mp hj).1
    have := lc_inj ⟨(mod_range (by decide)).1, (mod_range (by decide)).2⟩ ⟨(mod_range (by decide)).1, (mod_range (by decide)).2⟩ (word_ne e)
    omega
  rw [rngD_len, Nat.zero_add] at h1
  exact h1
end
end Sh


set_option Elab.async false
set_option linter.all false
set_option maxRecDepth 100000
namespace Sh
open PySem L2 Nf
def KsOk (ks : List Kd) : Prop := 0 < ks.length ∧ ks.length ≤ 3 ∧ ∀ k ∈ ks, KdOk (ks.map Kd.k) k
def F_kinds (f : Nat → Int) : List D → M D := fnA 1 13 (b_kinds F_word (nxS f))
theorem flat_mks : ∀ ms : List Mk, D.flatA (ms.map Mk.d) = true
  | [] => rfl
  | m :: r => by
    rw [List.map_cons]
    show (D.flat (.tup [.str m.w, .tup (m.ps.map .str)]) && _) = true
    simp only [D.flat, D.flatA, flat_strs', flat_mks r, Bool.and_self]
section
variable {f : Nat → Int} (hf : ∀ n, 0 ≤ f n ∧ f n < 1000)
include hf
theorem kinds_f {n : Nat} {st : List D} (hn : n + 60 ≤ 2 ^ 40) : ∃ ks m, F_kinds f [.deck] (n, st) = some (.tup (ks.map Kd.d), m, st) ∧ m ≤ n + 60 ∧ KsOk ks := by
  have h1 := hf n
  have h2 := hf (n + 1)
  have h3 := mod_range (k := f n) (m := 3) (by decide)
  -- the names
  have names : ∀ (k i : Nat), i + k ≤ 3 → ∀ ρ : Sd, ρ[2]? = some (some (.int (f (n + 1)))) → 9 < ρ.length → ∃ xs : List Str, lcM (gN 9) tY (eCall F_word (aCons (eC (.str ("k" : Str))) (aCons (eVar 2) (aCons (eVar 9) aNil)))) ρ ((List.range' i k).map fun (j : Nat) => D.int (0 + j)) (n + 2, st) = some (xs.map .str, n + 2, st) ∧ xs.length = k ∧ ∀ x ∈ xs, okS x := by
    intro k
    induction k with
    | zero => intro i _ ρ _ _; exact ⟨[], rfl, rfl, by simp⟩
    | succ k ih =>
      intro i hi ρ h2' h9
      obtain ⟨t, ex, ox, _⟩ := word_f (s := "k") (b := f (n + 1)) (k := 0 + (i : Int)) (n := (n + 2, st)) (by decide +kernel) (by decide) h2 (by omega)
      generalize ("k" : Str) ++ ⟨#[lc ((f (n + 1) + 5 * (0 + (i : Int))) % 26)]⟩ ++ t = x at ex ox
      obtain ⟨xs, e, l, o⟩ := ih (i + 1) (by omega) ρ h2' h9
      refine ⟨x :: xs, ?_, by simp [l], fun y hy => ?_⟩
      · rw [List.range'_succ, List.map_cons]
        refine lcM_cons rfl (eCall_e (aCons_e rfl (aCons_e (eVar_e ?_) (aCons_e (eVar_e ?_) aNil_e))) ex) e
        · rw [List.getElem?_set_ne (by decide)]; exact h2'
        · rw [List.getElem?_set_self h9]
      · rcases List.mem_cons.mp hy with rfl | hy
        · exact ox
        · exact o y hy
  obtain ⟨ns, en, ln, on⟩ := names (1 + f n % 3).toNat 0 (by omega) [some .deck, some (.int (f n)), some (.int (f (n + 1))), none, none, none, none, none, none, none, none, none, none] rfl (by simp)
  have el : eLc (i1 fR1 (e2 fAdd (eC (.int 1)) (e2 fMod (eVar 1) (eC (.int 3))))) (gN 9) tY (eCall F_word (aCons (eC (.str ("k" : Str))) (aCons (eVar 2) (aCons (eVar 9) aNil)))) [9] [some .deck, some (.int (f n)), some (.int (f (n + 1))), none, none, none, none, none, none, none, none, none, none] (n + 2, st) = some (.lst (ns.map .str), n + 2, st) := by
    refine eLc_e (i1_e (e2_e rfl (e2_e (eVar_e rfl) rfl (mod_i (by decide))) (z := .int (1 + f n % 3)) rfl) (r1_e (by omega))) ?_
    unfold rngD
    rw [List.range_eq_range']
    exact en
  -- the kinds
  obtain ⟨ρ', m0, g1, ks, y6, y7, y8, y9, y10, y11, y12, M0, m, rfl, rfl, g2, g3, g4, g5, g6⟩ := fM_inv (g := gN 6) (b := l3_kinds (nxS f) F_word) (fun i ρ m0 => ∃ (ks : List Kd) (y6 y7 y8 y9 y10 y11 y12 : Option D) (M0 m : Nat), ρ = [some .deck, some (.int (f n)), some (.int (f (n + 1))), some (.lst (ns.map .str)), some (.lst (ks.map Kd.d)), some (.int (M0 : Nat)), y6, y7, y8, y9, y10, y11, y12] ∧ m0 = (m, st) ∧ M0 ≤ 3 * i ∧ m ≤ n + 2 + 13 * i ∧ ks.length = i ∧ (∀ (j : Nat) (k : Kd), ks[j]? = some k → ns[j]? = some k.k) ∧ ∀ k ∈ ks, KdOk ns k)
    (ns.map .str) 0 [some .deck, some (.int (f n)), some (.int (f (n + 1))), some (.lst (ns.map .str)), some (.lst []), some (.int 0), none, none, none, none, none, none, none] (n + 2, st) ⟨[], none, none, none, none, none, none, none, 0, n + 2, rfl, rfl, by omega, by omega, rfl, fun j k h => by simp at h, fun k h => by simp at h⟩ (by
      rintro j d ρ m0 hj ⟨ks, y6, y7, y8, y9, y10, y11, y12, M0, m, rfl, rfl, hM, hm, hl, hix, hok⟩
      rw [List.getElem?_map] at hj
      obtain ⟨kk, hkk, rfl⟩ := Option.map_eq_some_iff.mp hj
      have hjn : j < ns.length := (List.getElem?_eq_some_iff.mp hkk).1
      have hkm : kk ∈ ns := List.mem_of_getElem? hkk
      have hr6 := mod_range (k := f m) (m := 6) (by decide)
      obtain ⟨c, e1, hc, _⟩ := ix_lst (f := D.int) (xs := [2, 2, 3, 3, 1, 2]) (i := f m % 6) hr6.1 (by simpa using hr6.2)
      have hc3 : 1 ≤ c ∧ c ≤ 3 := by
        simp only [List.mem_cons, List.not_mem_nil, or_false] at hc
        omega
      obtain ⟨ms, z9, z10, z11, z12, m', p1, p2, p3, p4, p5, p6⟩ := mks_loop hf (ns := ns) (kk := kk) (x1 := some (.int (f n))) (x4 := some (.lst (ks.map Kd.d))) (x8 := some (.int (f m))) (x9 := y9) (x10 := y10) (x11 := y11) (x12 := y12) (b := f (n + 1)) (n := m + 1) (st := st) (r := c.toNat) (M0 := M0) hkm (by omega) (by omega) (by omega) h2 (by omega)
      refine ⟨_, [some .deck, some (.int (f n)), some (.int (f (n + 1))), some (.lst (ns.map .str)), some (.lst ((ks ++ [(⟨kk, ms⟩ : Kd)]).map Kd.d)), some (.int ((M0 + c.toNat : Nat))), some (.str kk), some (.lst (ms.map Mk.d)), some (.int (f m)), z9, z10, z11, z12], (m', st), rfl, ?_, ks ++ [⟨kk, ms⟩], _, _, _, _, _, _, _, M0 + c.toNat, m', rfl, rfl, by omega, by omega, by rw [List.length_append, hl]; rfl, ?_, ?_⟩
      · unfold l3_kinds
        refine (bSeq_n (sSet_n (eLst_e aNil_e))).trans ((bSeq_n (sSet_n (eCall_e (aCons_e (eVar_e rfl) aNil_e) (nx_e (by omega))))).trans ?_)
        refine (bSeq_n ((sFor_i (i1_e (e2_e (eLst_e (aCons_e rfl (aCons_e rfl (aCons_e rfl (aCons_e rfl (aCons_e rfl (aCons_e rfl aNil_e))))))) (e2_e (eVar_e rfl) rfl (mod_i (by decide))) e1) (r1_e (by omega)))).trans p1)).trans ?_
        rw [List.map_append]
        refine sApp_n (xs := ks.map Kd.d) (d := Kd.d ⟨kk, ms⟩) (m := (m', st)) rfl (eFl_e (eTup_e (aCons_e (eVar_e rfl) (aCons_e (eF_e (aCons_e (eVar_e rfl) aNil_e) rfl) aNil_e))) ?_) (by rw [List.length_map]; omega)
        show D.flat (.tup [.str kk, .tup (ms.map Mk.d)]) = true
        simp only [D.flat, D.flatA, flat_mks, Bool.and_self]
      · intro i k hik
        by_cases hi : i < ks.length
        · rw [List.getElem?_append_left hi] at hik
          exact hix i k hik
        · rw [List.getElem?_append_right (by omega)] at hik
          have hi0 : i - ks.length = 0 := by
            have := (List.getElem?_eq_some_iff.mp hik).1
            simp at this; omega
          rw [hi0] at hik
          cases hik
          rw [show i = j by omega]
          exact hkk
      · intro k hk
        rcases List.mem_append.mp hk with h | h
        · exact hok k h
        · have : k = ⟨kk, ms⟩ := List.mem_singleton.mp h
          subst this
          exact ⟨on kk hkm, by show 0 < ms.length; omega, by show ms.length ≤ 3; omega, p4, p5, p6⟩)
  rw [List.length_map, Nat.zero_add] at g2 g3 g4
  have ens : ns = ks.map Kd.k := by
    apply List.ext_getElem?
    intro i
    rw [List.getElem?_map]
    cases hi : ks[i]? with
    | none => rw [List.getElem?_eq_none (by have := List.getElem?_eq_none_iff.mp hi; omega)]; rfl
    | some k => rw [g5 i k hi]; rfl
  refine ⟨ks, m, fn_ret rfl ?_, by omega, by omega, by omega, fun k hk => ens ▸ g6 k hk⟩
  show b_kinds F_word (nxS f) [some .deck, none, none, none, none, none, none, none, none, none, none, none, none] (n, st) = _
  unfold b_kinds
  refine (bSeq_n (sSet_n (eCall_e (aCons_e (eVar_e rfl) aNil_e) (nx_e (by omega))))).trans ((bSeq_n (sSet_n (eCall_e (aCons_e (eVar_e rfl) aNil_e) (nx_e (by omega))))).trans ((bSeq_n (sSet_n el)).trans ((bSeq_n (sSet_n (eLst_e aNil_e))).trans ((bSeq_n (sSet_n rfl)).trans ?_))))
  refine (bSeq_n ((sFor_i (iSeq_e (eVar_e rfl) (items_lst (by rw [List.length_map]; omega)))).trans g1)).trans (sRet_r (eF_e (aCons_e (eVar_e rfl) aNil_e) rfl))
end
end Sh


set_option Elab.async false
set_option linter.all false
set_option maxRecDepth 100000
namespace Sh
open PySem L2 Nf
def sc : Nat → Nat
  | 0 => 1
  | k + 1 => 1 + 3 * sc k
theorem sc_pos (k : Nat) : 1 ≤ sc k := by cases k <;> simp [sc] <;> omega
def own (ks : List Kd) : List Str := ks.map Kd.k ++ [("truth" : Str)]
theorem own_in {ks : List Kd} {p : Str} (h : p ∈ ks.map Kd.k ∨ p = "truth") : p ∈ own ks := by
  unfold own
  rcases h with h | h
  · exact List.mem_append_left _ h
  · rw [h]; simp
theorem msOf_ok {ks : List Kd} {ns : List Str} (h : ∀ k ∈ ks, KdOk ns k) (x : Str) : 0 < (msOf ks x).length ∧ (msOf ks x).length ≤ 3 ∧ (∀ m ∈ msOf ks x, MkOk ns m) ∧ (∀ m, (msOf ks x).head? = some m → m.ps = []) ∧ Uq (msOf ks x) := by
  induction ks with
  | nil =>
    refine ⟨by simp [msOf], by simp [msOf], fun m hm => ?_, fun m hm => ?_, fun i j m m' hi hj e => ?_⟩
    · have : m = ⟨"yes", []⟩ ∨ m = ⟨"no", []⟩ := by simpa [msOf] using hm
      rcases this with rfl | rfl
      · exact ⟨by show okS "yes"; decide +kernel, by simp, by simp⟩
      · exact ⟨by show okS "no"; decide +kernel, by simp, by simp⟩
    · have : m = ⟨"yes", []⟩ := by simpa [msOf] using hm.symm
      rw [this]
    · have key : ∀ (i : Nat) (m : Mk), (msOf [] x)[i]? = some m → (i = 0 ∧ m.w = "yes") ∨ (i = 1 ∧ m.w = "no") := fun i m h => by
        match i, h with
        | 0, h => cases h; exact .inl ⟨rfl, rfl⟩
        | 1, h => cases h; exact .inr ⟨rfl, rfl⟩
        | i + 2, h => simp [msOf] at h
      have ne : ("yes" : Str) ≠ "no" := by decide +kernel
      rcases key i m hi with ⟨a, b⟩ | ⟨a, b⟩ <;> rcases key j m' hj with ⟨a', b'⟩ | ⟨a', b'⟩
      · rw [a, a']
      · rw [b, b'] at e; exact absurd e ne
      · rw [b, b'] at e; exact absurd e.symm ne
      · rw [a, a']
  | cons q r ih =>
    have e : msOf (q :: r) x = if q.k = x then q.ms else msOf r x := rfl
    rw [e]
    by_cases hx : q.k = x
    · rw [if_pos hx]
      have hq := h q (by simp)
      exact ⟨hq.2.1, hq.2.2.1, hq.2.2.2.1, hq.2.2.2.2.1, hq.2.2.2.2.2⟩
    · rw [if_neg hx]
      exact ih fun k hk => h k (by simp [hk])
/-- a plain thing of a kind -/
def Ty (ks : List Kd) : Nat → Str → U → Prop
  | n + 1, k, .made w us => ∃ m ∈ msOf ks k, m.w = w ∧ us.length = m.ps.length ∧ ∀ (i : Nat) (p : Str) (u : U), m.ps[i]? = some p → us[i]? = some u → Ty ks n p u
  | _, _, _ => False
theorem Ty.mono {ks : List Kd} : ∀ {n n' : Nat} {k : Str} {u : U}, n ≤ n' → Ty ks n k u → Ty ks n' k u
  | 0, _, _, .made _ _, _, h => h.elim
  | 0, _, _, .name _, _, h => h.elim
  | 0, _, _, .skip, _, h => h.elim
  | n + 1, 0, _, _, hn, _ => by omega
  | n + 1, n' + 1, k, .name _, _, h => h.elim
  | n + 1, n' + 1, k, .skip, _, h => h.elim
  | n + 1, n' + 1, k, .made w us, hn, ⟨m, a, b, c, d⟩ => ⟨m, a, b, c, fun i p u h1 h2 => (d i p u h1 h2).mono (by omega)⟩
theorem get_of_len {α β : Type} {xs : List α} {ys : List β} (h : xs.length = ys.length) {i : Nat} {x : α} (e : xs[i]? = some x) : ∃ y, ys[i]? = some y := by
  have := (List.getElem?_eq_some_iff.mp e).1
  exact ⟨ys[i], List.getElem?_eq_getElem (by omega)⟩
theorem Ty.ok {ks : List Kd} (hks : KsOk ks) : ∀ {n : Nat} {k : Str} {u : U}, Ty ks n k u → U.ok n u
  | 0, _, .made _ _, h => h.elim
  | 0, _, .name _, h => h.elim
  | 0, _, .skip, h => h.elim
  | n + 1, k, .name _, h => h.elim
  | n + 1, k, .skip, h => h.elim
  | n + 1, k, .made w us, ⟨m, a, b, c, d⟩ => by
    obtain ⟨_, _, qok, _⟩ := msOf_ok hks.2.2 k
    obtain ⟨o1, o2, o3⟩ := qok m a
    refine ⟨b ▸ o1, by omega, fun u hu => ?_⟩
    obtain ⟨i, hi⟩ := List.mem_iff_getElem?.mp hu
    obtain ⟨p, hp⟩ := get_of_len c hi
    exact (d i p u hp hi).ok hks
def F_plain (f : Nat → Int) : Nat → List D → M D
  | 0 => fun _ _ => none
  | k + 1 => fnA 4 9 (b_plain (F_plain f k) (nxS f) F_makers)
theorem max0 {k : Nat} : fMax2 (.int 0) (.int ((k : Int) - 1)) = some (.int ((k - 1 : Nat))) := by
  show some (D.int (if ((k : Nat) : Int) - 1 > 0 then ((k : Nat) : Int) - 1 else 0)) = _
  congr 2
  split <;> omega
/-- the i-th data are those of things by P -/
def UsAt (P : Nat → U → Prop) (ys : List D) : Prop := ∃ us : List U, ys = us.map U.d ∧ ∀ (i : Nat) (u : U), us[i]? = some u → P i u
theorem UsAt.nil {P : Nat → U → Prop} : UsAt P [] := ⟨[], rfl, fun i u h => by simp at h⟩
theorem UsAt.snoc {P : Nat → U → Prop} {ys : List D} {u : U} (h : UsAt P ys) (k : P ys.length u) : UsAt P (ys ++ [u.d]) := by
  obtain ⟨us, rfl, q⟩ := h
  refine ⟨us ++ [u], by rw [List.map_append]; rfl, fun i v hv => ?_⟩
  by_cases hi : i < us.length
  · rw [List.getElem?_append_left hi] at hv; exact q i v hv
  · rw [List.getElem?_append_right (by omega)] at hv
    have : i - us.length = 0 := by
      have := (List.getElem?_eq_some_iff.mp hv).1
      simp at this; omega
    rw [this] at hv
    cases hv
    rw [List.length_map] at k
    rw [show i = us.length by omega]; exact k
section
variable {f : Nat → Int} (hf : ∀ n, 0 ≤ f n ∧ f n < 1000)
include hf
theorem plain_f {ks : List Kd} (hks : KsOk ks) : ∀ (K far : Nat) (kind : Str) (n : Nat) (st : List D), far < K → n + sc far ≤ 2 ^ 40 → ∃ u m, F_plain f K [.deck, .tup (ks.map Kd.d), .str kind, .int (far : Nat)] (n, st) = some (U.d u, m, st) ∧ m ≤ n + sc far ∧ Ty ks (far + 1) kind u
  | 0, _, _, _, _, h, _ => by omega
  | K + 1, far, kind, n, st, hK, hn => by
    obtain ⟨l0, l3, hok⟩ := id hks
    have h1 := hf n
    have sp := sc_pos far
    obtain ⟨q0, q3, qok, qh, _⟩ := msOf_ok hok kind
    have hml : (0 : Int) < ((msOf ks kind).length : Int) := by omega
    have hrm := mod_range (k := f n) hml
    obtain ⟨mk, emk, hmk, gmk⟩ := ix_tup' (f := Mk.d) (xs := msOf ks kind) (i := f n % ((msOf ks kind).length : Int)) hrm.1 hrm.2
    obtain ⟨mk0, emk0, hmk0, gmk0⟩ := ix_tup' (f := Mk.d) (xs := msOf ks kind) (i := 0) (by decide) (by omega)
    have hp0 : mk0.ps = [] := qh mk0 (by rw [List.head?_eq_getElem?]; exact gmk0)
    obtain ⟨mt, hmt, hmt0, est⟩ : ∃ mt : Mk, mt ∈ msOf ks kind ∧ (far = 0 → mt.ps = []) ∧ ∀ t : Bd, bSeq (sAsg (e2 fDG (eVar 4) (e2 fMod (eVar 5) (eF (f1 fLen) (aCons (eVar 4) aNil)))) (gT (gsC (gN 6) (gsC (gN 7) gsN)))) (bSeq (sIf (trB (e2 fEq (eVar 3) (eC (.int 0)))) (sAsg (e2 fDG (eVar 4) (eC (.int 0))) (gT (gsC (gN 6) (gsC (gN 7) gsN)))) bNil) t)
        [some .deck, some (.tup (ks.map Kd.d)), some (.str kind), some (.int (far : Nat)), some (.tup ((msOf ks kind).map Mk.d)), some (.int (f n)), none, none, none] (n + 1, st) =
        t [some .deck, some (.tup (ks.map Kd.d)), some (.str kind), some (.int (far : Nat)), some (.tup ((msOf ks kind).map Mk.d)), some (.int (f n)), some (.str mt.w), some (.tup (mt.ps.map .str)), none] (n + 1, st) := by
      have first : ∀ t : Bd, bSeq (sAsg (e2 fDG (eVar 4) (e2 fMod (eVar 5) (eF (f1 fLen) (aCons (eVar 4) aNil)))) (gT (gsC (gN 6) (gsC (gN 7) gsN)))) t
        [some .deck, some (.tup (ks.map Kd.d)), some (.str kind), some (.int (far : Nat)), some (.tup ((msOf ks kind).map Mk.d)), some (.int (f n)), none, none, none] (n + 1, st) =
        t [some .deck, some (.tup (ks.map Kd.d)), some (.str kind), some (.int (far : Nat)), some (.tup ((msOf ks kind).map Mk.d)), some (.int (f n)), some (.str mk.w), some (.tup (mk.ps.map .str)), none] (n + 1, st) := fun t =>
        bSeq_n (sAsg_n (d := Mk.d mk) (e2_e (eVar_e rfl) (e2_e (eVar_e rfl) (eF_e (aCons_e (eVar_e rfl) aNil_e) (d := .int ((msOf ks kind).length : Nat)) (by show some (D.int _) = _; rw [List.length_map])) (mod_i hml)) emk) rfl)
      by_cases hz : far = 0
      · exact ⟨mk0, hmk0, fun _ => hp0, fun t => (first _).trans (bSeq_n ((sIf_t (tEqI_t (x := (far : Nat)) (eVar_e rfl) rfl (by omega))).trans (sAsg_n (d := Mk.d mk0) (e2_e (eVar_e rfl) rfl emk0) rfl)))⟩
      · exact ⟨mk, hmk, fun z => absurd z hz, fun t => (first _).trans (bSeq_n ((sIf_f (tEqI_f (x := (far : Nat)) (eVar_e rfl) rfl (by omega))).trans rfl))⟩
    obtain ⟨ow, lp, hpk⟩ := qok mt hmt
    obtain ⟨ys, m, ms2, e3, hm, hly, rfl, us, rfl, hus⟩ := Ds.lcI (g := gN 8) (te := eCall (F_plain f K) (aCons (eVar 0) (aCons (eVar 1) (aCons (eVar 8) (aCons (eF (f2 fMax2) (aCons (eC (.int 0)) (aCons (e2 fSub (eVar 3) (eC (.int 1))) aNil))) aNil)))))
      (ρ := [some .deck, some (.tup (ks.map Kd.d)), some (.str kind), some (.int (far : Nat)), some (.tup ((msOf ks kind).map Mk.d)), some (.int (f n)), some (.str mt.w), some (.tup (mt.ps.map .str)), none])
      (f := D.str) (c := sc (far - 1)) (fun ys ms => ms = st ∧ UsAt (fun i u => ∀ p, mt.ps[i]? = some p → Ty ks far p u) ys) mt.ps [] (by
        intro i x hx ys hl
        have hfar : 0 < far := by
          rcases Nat.eq_zero_or_pos far with z | z
          · rw [hmt0 z] at hx; simp at hx
          · exact z
        refine ⟨_, rfl, fun n' ms' hp hn' => ?_⟩
        obtain ⟨rfl, hus⟩ := hp
        obtain ⟨u, m, eu, hm, hu⟩ := plain_f hks K (far - 1) x n' ms' (by omega) hn'
        refine ⟨U.d u, m, ms', eCall_e (aCons_e (eVar_e rfl) (aCons_e (eVar_e rfl) (aCons_e (eVar_e rfl) (aCons_e (eF_e (aCons_e rfl (aCons_e (e2_e (eVar_e rfl) rfl (z := .int ((far : Nat) - 1)) rfl) aNil_e)) (d := .int ((far - 1 : Nat))) max0) aNil_e)))) eu, hm, rfl, hus.snoc fun p hp => ?_⟩
        rw [show ys.length = i by simpa using hl] at hp
        rw [hx] at hp; cases hp
        rw [show far = far - 1 + 1 by omega]; exact hu) (n + 1) st ⟨rfl, UsAt.nil⟩ (by
        cases far with
        | zero => rw [hmt0 rfl]; simp; omega
        | succ k => simp only [sc, Nat.add_sub_cancel] at hn ⊢; have := Nat.mul_le_mul_right (sc k) lp; omega)
    rw [List.length_map] at hly
    refine ⟨.made mt.w us, m, fn_ret rfl ?_, ?_, mt, hmt, rfl, hly, fun i p u h1 h2 => hus i u h2 p h1⟩
    · show b_plain (F_plain f K) (nxS f) F_makers [some .deck, some (.tup (ks.map Kd.d)), some (.str kind), some (.int (far : Nat)), none, none, none, none, none] (n, ms2) = _
      unfold b_plain
      refine (bSeq_n (sSet_n (eCall_e (aCons_e (eVar_e rfl) (aCons_e (eVar_e rfl) aNil_e)) (makers_f (by omega))))).trans ((bSeq_n (sSet_n (eCall_e (aCons_e (eVar_e rfl) aNil_e) (nx_e (by omega))))).trans ((est _).trans ?_))
      rw [U.d_made]
      exact sRet_r (eTup_e (aCons_e rfl (aCons_e (eVar_e rfl) (aCons_e (eF_e (aCons_e (eLc_e (iSeq_e (eVar_e rfl) (items_tup (by rw [List.length_map]; omega))) e3) aNil_e) rfl) aNil_e))))
    · cases far with
      | zero => rw [hmt0 rfl] at hm; simp at hm; simp [sc]; omega
      | succ k => simp only [sc, Nat.add_sub_cancel] at hm ⊢; have := Nat.mul_le_mul_right (sc k) lp; omega
end
end Sh


set_option Elab.async false
set_option linter.all false
set_option maxRecDepth 100000
namespace Sh
open PySem L2 Nf
/-! unfinished things, their names by the kinds so far -/
abbrev kn (cs : List Str) : D := .lst (cs.map .str)
theorem kn_flat (cs : List Str) : (kn cs).flatO = true := by
  show D.flatA (cs.map D.str) = true
  exact flat_strs' cs
def OpL (R : Str → List Str → U → List Str → Prop) : List Str → List Str → List U → List Str → Prop
  | [], cs, [], cs' => cs' = cs
  | p :: ps, cs, u :: us, cs' => ∃ c1, R p cs u c1 ∧ OpL R ps c1 us cs'
  | _, _, _, _ => False
def Op (ks : List Kd) : Nat → Str → List Str → U → List Str → Prop
  | _ + 1, k, cs, .name x, cs' => (∃ i, x = nmS i ∧ cs[i]? = some k ∧ cs' = cs) ∨ (x = nmS cs.length ∧ cs' = cs ++ [k])
  | n + 1, k, cs, .made w us, cs' => ∃ m ∈ msOf ks k, m.w = w ∧ OpL (Op ks n) m.ps cs us cs'
  | _, _, _, _, _ => False
theorem OpL.snoc {R : Str → List Str → U → List Str → Prop} {p : Str} {u : U} {c2 : List Str} : ∀ {ps : List Str} {us : List U} {cs c1 : List Str}, OpL R ps cs us c1 → R p c1 u c2 → OpL R (ps ++ [p]) cs (us ++ [u]) c2
  | [], [], cs, c1, h, k => by
    cases h
    exact ⟨c2, k, rfl⟩
  | q :: ps, v :: us, cs, c1, ⟨c, h1, h2⟩, k => ⟨c, h1, OpL.snoc h2 k⟩
  | [], _ :: _, _, _, h, _ => h.elim
  | _ :: _, [], _, _, h, _ => h.elim
theorem old_f {a b : Nat} {kind : Str} {cs : List Str} {n : Nat} {ms : List D} {ρ : Sd} (h0 : ms[0]? = some (kn cs)) (ha : ρ[a]? = some (some (.shr 0))) (hb : ρ[b]? = some (some (.str kind))) (hl : 10 < ρ.length) (na : a ≠ 10) (nb : b ≠ 10) (hc : cs.length ≤ 100) :
    ∀ (r i : Nat), i + r = cs.length → ∃ xs : List Str, lcM (gN 10) (trB (e2 fEq (e2S fDG (eVar a) (eVar 10)) (eVar b))) (eF (f1 fStr) (aCons (e2 fAdd (eVar 10) (eC (.int 1))) aNil)) ρ ((List.range' i r).map fun (j : Nat) => D.int (0 + j)) (n, ms) = some (xs.map .str, n, ms) ∧ ∀ x ∈ xs, ∃ i, x = nmS i ∧ cs[i]? = some kind
  | 0, i, _ => ⟨[], rfl, by simp⟩
  | r + 1, i, hr => by
    obtain ⟨xs, h1, h2⟩ := old_f (n := n) h0 ha hb hl na nb hc r (i + 1) (by omega)
    have g : gN 10 (.int (0 + (i : Int))) ρ = some (ρ.set 10 (some (.int (0 + (i : Int))))) := rfl
    have ea : (ρ.set 10 (some (.int (0 + (i : Int)))))[a]? = some (some (.shr 0)) := by rw [List.getElem?_set_ne (Ne.symm na)]; exact ha
    have eb : (ρ.set 10 (some (.int (0 + (i : Int)))))[b]? = some (some (.str kind)) := by rw [List.getElem?_set_ne (Ne.symm nb)]; exact hb
    have e10 : (ρ.set 10 (some (.int (0 + (i : Int)))))[10]? = some (some (.int (0 + (i : Int)))) := List.getElem?_set_self hl
    obtain ⟨k, hk⟩ : ∃ k, cs[i]? = some k := ⟨cs[i], List.getElem?_eq_getElem (by omega)⟩
    have ek : fDG (kn cs) (.int (0 + (i : Int))) = some (.str k) := by
      obtain ⟨x, ex, _, gx⟩ := ix_lst (f := D.str) (xs := cs) (i := 0 + (i : Int)) (by omega) (by omega)
      rw [show (0 + (i : Int)).toNat = i by omega, hk] at gx
      cases gx
      exact ex
    have T : trB (e2 fEq (e2S fDG (eVar a) (eVar 10)) (eVar b)) (ρ.set 10 (some (.int (0 + (i : Int))))) (n, ms) = some (decide (k = kind), n, ms) := trB_e (e2_e (e2S_e (eVar_e ea) (eVar_e e10) (shC_shr h0) ek) (eVar_e eb) eq_str) rfl
    have V : eF (f1 fStr) (aCons (e2 fAdd (eVar 10) (eC (.int 1))) aNil) (ρ.set 10 (some (.int (0 + (i : Int))))) (n, ms) = some (.str (nmS i), n, ms) := eF_e (aCons_e (e2_e (eVar_e e10) rfl (z := .int ((i : Int) + 1)) (by show some (D.int (0 + (i : Int) + 1)) = _; rw [Int.zero_add])) aNil_e) (fStr_nm (by omega))
    rw [List.range'_succ, List.map_cons]
    by_cases hkk : k = kind
    · refine ⟨nmS i :: xs, ?_, fun x hx => ?_⟩
      · rw [decide_eq_true hkk] at T
        unfold lcM
        unfold Mb
        rw [g]
        simp only [Mo, Option.map_some, T, if_true, V, h1, Mp, List.map_cons]
      · rcases List.mem_cons.mp hx with rfl | hx
        · exact ⟨i, rfl, hkk ▸ hk⟩
        · exact h2 x hx
    · refine ⟨xs, ?_, h2⟩
      rw [decide_eq_false hkk] at T
      unfold lcM
      unfold Mb
      rw [g]
      simp only [Mo, Option.map_some, T, Bool.false_eq_true, if_false, h1]
theorem old_e {a b : Nat} {kind : Str} {cs : List Str} {n : Nat} {ms : List D} {ρ : Sd} (h0 : ms[0]? = some (kn cs)) (ha : ρ[a]? = some (some (.shr 0))) (hb : ρ[b]? = some (some (.str kind))) (h10 : ρ[10]? = some none) (na : a ≠ 10) (nb : b ≠ 10) (hc : cs.length ≤ 100) :
    ∃ xs : List Str, eLc (i1 fR1 (e1S fLenD (eVar a))) (gN 10) (trB (e2 fEq (e2S fDG (eVar a) (eVar 10)) (eVar b))) (eF (f1 fStr) (aCons (e2 fAdd (eVar 10) (eC (.int 1))) aNil)) [10] ρ (n, ms) = some (.lst (xs.map .str), n, ms) ∧ ∀ x ∈ xs, ∃ i, x = nmS i ∧ cs[i]? = some kind := by
  have hl : 10 < ρ.length := (List.getElem?_eq_some_iff.mp h10).1
  have ew : wipeD ρ [10] = ρ := by
    show ρ.set 10 none = ρ
    apply List.ext_getElem?
    intro i
    by_cases hi : i = 10
    · subst hi; rw [List.getElem?_set_self hl, h10]
    · rw [List.getElem?_set_ne (fun z => hi z.symm)]
  obtain ⟨xs, h1, h2⟩ := old_f (n := n) h0 ha hb hl na nb hc cs.length 0 (by omega)
  refine ⟨xs, eLc_e (i1_e (e1S_e (eVar_e ha) (shC_shr h0) (z := .int (cs.length : Nat)) (by show some (D.int _) = _; rw [List.length_map])) (r1_e (by omega))) ?_, h2⟩
  rw [ew]
  unfold rngD
  rw [List.range_eq_range']
  exact h1
def F_open (f : Nat → Int) : Nat → List D → M D
  | 0 => fun _ _ => none
  | k + 1 => fnA 5 12 (b_open (F_open f k) F_makers (nxS f))
section
variable {f : Nat → Int} (hf : ∀ n, 0 ≤ f n ∧ f n < 1000)
include hf
theorem open_f {ks : List Kd} (hks : KsOk ks) : ∀ (K far : Nat) (kind : Str) (n : Nat) (cs : List Str), far < K → n + sc far ≤ 2 ^ 40 → cs.length + sc far ≤ 100 →
    ∃ u m cs', F_open f K [.deck, .tup (ks.map Kd.d), .str kind, .int (far : Nat), .shr 0] (n, [kn cs]) = some (U.d u, m, [kn cs']) ∧ m ≤ n + sc far ∧ cs'.length ≤ cs.length + sc far ∧ Op ks (far + 1) kind cs u cs'
  | 0, _, _, _, _, h, _, _ => by omega
  | K + 1, far, kind, n, cs, hK, hn, hc => by
    obtain ⟨l0, l3, hok⟩ := id hks
    have h1 := hf n
    have sp := sc_pos far
    obtain ⟨xs, ex, hxs⟩ := old_e (a := 4) (b := 2) (kind := kind) (cs := cs) (n := n + 1) (ms := [kn cs]) (ρ := [some .deck, some (.tup (ks.map Kd.d)), some (.str kind), some (.int (far : Nat)), some (.shr 0), some (.int (f n)), none, none, none, none, none, none]) rfl rfl rfl rfl (by decide) (by decide) (by omega)
    have start : ∀ t u : Bd, (t = bSeq (sSet 5 (eCall (nxS f) (aCons (eVar 0) aNil))) (bSeq (sSet 6 (eLc (i1 fR1 (e1S fLenD (eVar 4))) (gN 10) (trB (e2 fEq (e2S fDG (eVar 4) (eVar 10)) (eVar 2))) (eF (f1 fStr) (aCons (e2 fAdd (eVar 10) (eC (.int 1))) aNil)) [10])) u)) →
        t [some .deck, some (.tup (ks.map Kd.d)), some (.str kind), some (.int (far : Nat)), some (.shr 0), none, none, none, none, none, none, none] (n, [kn cs]) =
        u [some .deck, some (.tup (ks.map Kd.d)), some (.str kind), some (.int (far : Nat)), some (.shr 0), some (.int (f n)), some (.lst (xs.map .str)), none, none, none, none, none] (n + 1, [kn cs]) := fun t u h => by
      rw [h]
      exact (bSeq_n (sSet_n (eCall_e (aCons_e (eVar_e rfl) aNil_e) (nx_e (by omega))))).trans ((bSeq_n (sSet_n ex)).trans rfl)
    generalize hρ : ([some .deck, some (.tup (ks.map Kd.d)), some (.str kind), some (.int (far : Nat)), some (.shr 0), some (.int (f n)), some (.lst (xs.map .str)), none, none, none, none, none] : Sd) = ρ at start
    have r0 : ρ[0]? = some (some .deck) := by rw [← hρ]; rfl
    have r1 : ρ[1]? = some (some (.tup (ks.map Kd.d))) := by rw [← hρ]; rfl
    have r2 : ρ[2]? = some (some (.str kind)) := by rw [← hρ]; rfl
    have r3 : ρ[3]? = some (some (.int (far : Nat))) := by rw [← hρ]; rfl
    have r4 : ρ[4]? = some (some (.shr 0)) := by rw [← hρ]; rfl
    have r5 : ρ[5]? = some (some (.int (f n))) := by rw [← hρ]; rfl
    have r6 : ρ[6]? = some (some (.lst (xs.map .str))) := by rw [← hρ]; rfl
    have t3 : trB (e2 fEq (e2 fMod (eVar 5) (eC (.int 3))) (eC (.int 0))) ρ (n + 1, [kn cs]) = some (decide (f n % 3 = 0), n + 1, [kn cs]) := trB_e (e2_e (e2_e (eVar_e r5) rfl (mod_i (by decide))) rfl eq_int) rfl
    have tf : trB (e2 fEq (eVar 3) (eC (.int 0))) ρ (n + 1, [kn cs]) = some (decide ((far : Int) = 0), n + 1, [kn cs]) := trB_e (e2_e (eVar_e r3) rfl eq_int) rfl
    have t2 : trB (e2 fEq (e2 fMod (eVar 5) (eC (.int 2))) (eC (.int 0))) ρ (n + 1, [kn cs]) = some (decide (f n % 2 = 0), n + 1, [kn cs]) := trB_e (e2_e (e2_e (eVar_e r5) rfl (mod_i (by decide))) rfl eq_int) rfl
    have tc : ∃ c : Bool, tOr' (trB (e2 fEq (e2 fMod (eVar 5) (eC (.int 3))) (eC (.int 0)))) (tAn (trB (e2 fEq (eVar 3) (eC (.int 0)))) (trB (e2 fEq (e2 fMod (eVar 5) (eC (.int 2))) (eC (.int 0))))) ρ (n + 1, [kn cs]) = some (c, n + 1, [kn cs]) := by
      by_cases a : f n % 3 = 0
      · rw [decide_eq_true a] at t3; exact ⟨true, tOr_t t3⟩
      · rw [decide_eq_false a] at t3
        by_cases b : (far : Int) = 0
        · rw [decide_eq_true b] at tf; exact ⟨_, (tOr_f t3).trans ((tAn_t tf).trans t2)⟩
        · rw [decide_eq_false b] at tf; exact ⟨_, (tOr_f t3).trans (tAn_f tf)⟩
    obtain ⟨c, hc1⟩ := tc
    cases c with
    | true =>
      have o6 : ∀ x ∈ xs, okS x := fun x hx => by
        obtain ⟨i, rfl, hi⟩ := hxs x hx
        exact nmS_ok (by have := (List.getElem?_eq_some_iff.mp hi).1; omega)
      have tn : trB (e2 fNe (eVar 6) (eLst aNil)) ρ (n + 1, [kn cs]) = some (!xs.isEmpty, n + 1, [kn cs]) := trB_e (e2_e (eVar_e r6) (eLst_e aNil_e) (ne_nilS o6)) rfl
      have tg : trB (e2 fGt (e2 fMod (e2 fDiv (eVar 5) (eC (.int 6))) (eC (.int 3))) (eC (.int 0))) ρ (n + 1, [kn cs]) = some (decide (f n / 6 % 3 > 0), n + 1, [kn cs]) := trB_e (e2_e (e2_e (e2_e (eVar_e r5) rfl (div_i ⟨by decide, by decide⟩)) rfl (mod_i (by decide))) rfl rfl) rfl
      have tc2 : ∃ c : Bool, tAn (trB (e2 fNe (eVar 6) (eLst aNil))) (trB (e2 fGt (e2 fMod (e2 fDiv (eVar 5) (eC (.int 6))) (eC (.int 3))) (eC (.int 0)))) ρ (n + 1, [kn cs]) = some (c, n + 1, [kn cs]) ∧ (c = true → xs ≠ []) := by
        cases hx : xs with
        | nil => rw [hx] at tn; exact ⟨false, tAn_f tn, fun z => nomatch z⟩
        | cons a b => rw [hx] at tn; exact ⟨_, (tAn_t tn).trans tg, fun _ => by simp⟩
      obtain ⟨c2, hc2, hx2⟩ := tc2
      cases c2 with
      | true =>
        have hne := hx2 rfl
        have hpl : (0 : Int) < (xs.length : Int) := by cases xs with | nil => exact absurd rfl hne | cons _ _ => simp
        have hr := mod_range (k := f n / 18) hpl
        obtain ⟨x, e1, hx, _⟩ := ix_lst (f := D.str) (xs := xs) (i := f n / 18 % (xs.length : Int)) hr.1 hr.2
        obtain ⟨i, rfl, hi⟩ := hxs x hx
        refine ⟨.name (nmS i), n + 1, cs, fn_ret rfl ?_, by omega, by omega, .inl ⟨i, rfl, hi, rfl⟩⟩
        rw [U.d_name]
        refine (start _ _ rfl).trans (bSeq_r ((sIf_t hc1).trans (bSeq_r ((sIf_t hc2).trans (sRet_r (eTup_e (aCons_e rfl (aCons_e (e2_e (eVar_e r6) (e2_e (e2_e (eVar_e r5) rfl (div_i ⟨by decide, by decide⟩)) (eF_e (aCons_e (eVar_e r6) aNil_e) (d := .int (xs.length : Nat)) (by show some (D.int _) = _; rw [List.length_map])) (mod_i hpl)) e1) aNil_e))))))))
      | false =>
        refine ⟨.name (nmS cs.length), n + 1, cs ++ [kind], fn_ret rfl ?_, by omega, by rw [List.length_append]; simp; omega, .inr ⟨rfl, rfl⟩⟩
        rw [U.d_name]
        have hfl : D.flatA (cs.map D.str ++ [D.str kind]) = true := by rw [show cs.map D.str ++ [D.str kind] = (cs ++ [kind]).map D.str by rw [List.map_append]; rfl]; exact flat_strs' _
        have ha := sAppS_n (a := eVar 4) (b := eVar 2) (ρ := ρ) (n := (n + 1, [kn cs])) (eVar_e r4) (h0 := rfl) (eVar_e r2) (xs := cs.map D.str) rfl (by rw [List.length_map]; omega) hfl
        have eS : ((n + 1, [kn cs]).1, (([kn cs] : List D).set 0 (.lst (cs.map D.str ++ [D.str kind])))) = (n + 1, [kn (cs ++ [kind])]) := by
          show (n + 1, [D.lst (cs.map D.str ++ [D.str kind])]) = _
          rw [show cs.map D.str ++ [D.str kind] = (cs ++ [kind]).map D.str by rw [List.map_append]; rfl]
        have ha' : sAppS (eVar 4) (eVar 2) ρ (n + 1, [kn cs]) = some (.next ρ, n + 1, [kn (cs ++ [kind])]) := ha.trans (congrArg (fun z => some (Fl.next ρ, z)) eS)
        refine (start _ _ rfl).trans (bSeq_r ((sIf_t hc1).trans ((bSeq_n ((sIf_f hc2).trans rfl)).trans ((bSeq_n ha').trans (sRet_r (eTup_e (aCons_e rfl (aCons_e (eF_e (aCons_e (e1S_e (eVar_e r4) (shC_shr (c := kn (cs ++ [kind])) rfl) (z := .int ((cs.length : Int) + 1)) ?_) aNil_e) (fStr_nm (by omega))) aNil_e))))))))
        show some (D.int (((cs ++ [kind]).map D.str).length : Nat)) = _
        rw [List.length_map, List.length_append]; rfl
    | false =>
      obtain ⟨q0, q3, qok, qh, _⟩ := msOf_ok hok kind
      have hml : (0 : Int) < ((msOf ks kind).length : Int) := by omega
      have hrm := mod_range (k := f n / 6) hml
      obtain ⟨mk, emk, hmk, gmk⟩ := ix_tup' (f := Mk.d) (xs := msOf ks kind) (i := f n / 6 % ((msOf ks kind).length : Int)) hrm.1 hrm.2
      obtain ⟨mk0, emk0, hmk0, gmk0⟩ := ix_tup' (f := Mk.d) (xs := msOf ks kind) (i := 0) (by decide) (by omega)
      have hp0 : mk0.ps = [] := qh mk0 (by rw [List.head?_eq_getElem?]; exact gmk0)
      obtain ⟨mt, hmt, hmt0, est⟩ : ∃ mt : Mk, mt ∈ msOf ks kind ∧ (far = 0 → mt.ps = []) ∧ ∀ t : Bd, bSeq (sSet 7 (eCall F_makers (aCons (eVar 1) (aCons (eVar 2) aNil)))) (bSeq (sAsg (e2 fDG (eVar 7) (e2 fMod (e2 fDiv (eVar 5) (eC (.int 6))) (eF (f1 fLen) (aCons (eVar 7) aNil)))) (gT (gsC (gN 8) (gsC (gN 9) gsN)))) (bSeq (sIf (trB (e2 fEq (eVar 3) (eC (.int 0)))) (sAsg (e2 fDG (eVar 7) (eC (.int 0))) (gT (gsC (gN 8) (gsC (gN 9) gsN)))) bNil) t)) ρ (n + 1, [kn cs]) =
          t [some .deck, some (.tup (ks.map Kd.d)), some (.str kind), some (.int (far : Nat)), some (.shr 0), some (.int (f n)), some (.lst (xs.map .str)), some (.tup ((msOf ks kind).map Mk.d)), some (.str mt.w), some (.tup (mt.ps.map .str)), none, none] (n + 1, [kn cs]) := by
        have first : ∀ t : Bd, bSeq (sSet 7 (eCall F_makers (aCons (eVar 1) (aCons (eVar 2) aNil)))) (bSeq (sAsg (e2 fDG (eVar 7) (e2 fMod (e2 fDiv (eVar 5) (eC (.int 6))) (eF (f1 fLen) (aCons (eVar 7) aNil)))) (gT (gsC (gN 8) (gsC (gN 9) gsN)))) t) ρ (n + 1, [kn cs]) =
          t [some .deck, some (.tup (ks.map Kd.d)), some (.str kind), some (.int (far : Nat)), some (.shr 0), some (.int (f n)), some (.lst (xs.map .str)), some (.tup ((msOf ks kind).map Mk.d)), some (.str mk.w), some (.tup (mk.ps.map .str)), none, none] (n + 1, [kn cs]) := fun t => by
          refine (bSeq_n (sSet_n (eCall_e (aCons_e (eVar_e r1) (aCons_e (eVar_e r2) aNil_e)) (makers_f (by omega))))).trans ?_
          rw [← hρ]
          exact bSeq_n (sAsg_n (d := Mk.d mk) (e2_e (eVar_e rfl) (e2_e (e2_e (eVar_e rfl) rfl (div_i ⟨by decide, by decide⟩)) (eF_e (aCons_e (eVar_e rfl) aNil_e) (d := .int ((msOf ks kind).length : Nat)) (by show some (D.int _) = _; rw [List.length_map])) (mod_i hml)) emk) rfl)
        by_cases hz : far = 0
        · exact ⟨mk0, hmk0, fun _ => hp0, fun t => (first _).trans (bSeq_n ((sIf_t (tEqI_t (x := (far : Nat)) (eVar_e rfl) rfl (by omega))).trans (sAsg_n (d := Mk.d mk0) (e2_e (eVar_e rfl) rfl emk0) rfl)))⟩
        · exact ⟨mk, hmk, fun z => absurd z hz, fun t => (first _).trans (bSeq_n ((sIf_f (tEqI_f (x := (far : Nat)) (eVar_e rfl) rfl (by omega))).trans rfl))⟩
      obtain ⟨ow, lp, hpk⟩ := qok mt hmt
      have hsc : sc far = if far = 0 then 1 else 1 + 3 * sc (far - 1) := by
        cases far with
        | zero => rfl
        | succ k => rfl
      have hlp : mt.ps.length * sc (far - 1) + 1 ≤ sc far := by
        by_cases hz : far = 0
        · rw [hmt0 hz, hsc, if_pos hz]; simp
        · rw [hsc, if_neg hz]; have := Nat.mul_le_mul_right (sc (far - 1)) lp; omega
      obtain ⟨ys, m, ms2, e3, hm, hly, us, cs', rfl, rfl, hcl, hop⟩ := Ds.lcI (g := gN 11) (te := eCall (F_open f K) (aCons (eVar 0) (aCons (eVar 1) (aCons (eVar 11) (aCons (eF (f2 fMax2) (aCons (eC (.int 0)) (aCons (e2 fSub (eVar 3) (eC (.int 1))) aNil))) (aCons (eVar 4) aNil))))))
        (ρ := [some .deck, some (.tup (ks.map Kd.d)), some (.str kind), some (.int (far : Nat)), some (.shr 0), some (.int (f n)), some (.lst (xs.map .str)), some (.tup ((msOf ks kind).map Mk.d)), some (.str mt.w), some (.tup (mt.ps.map .str)), none, none])
        (f := D.str) (c := sc (far - 1)) (fun ys ms => ∃ (us : List U) (cs' : List Str), ys = us.map U.d ∧ ms = [kn cs'] ∧ cs'.length ≤ cs.length + us.length * sc (far - 1) ∧ OpL (Op ks far) (mt.ps.take us.length) cs us cs') mt.ps [] (by
          intro i x hx ys hl
          have hfar : 0 < far := by
            rcases Nat.eq_zero_or_pos far with z | z
            · rw [hmt0 z] at hx; simp at hx
            · exact z
          refine ⟨_, rfl, fun n' ms' hp hn' => ?_⟩
          obtain ⟨us, cs1, rfl, rfl, hcl, hop⟩ := hp
          have hi : us.length = i := by simpa using hl
          have hil := (List.getElem?_eq_some_iff.mp hx).1
          have hb2 : us.length * sc (far - 1) + sc (far - 1) ≤ mt.ps.length * sc (far - 1) := by rw [← Nat.succ_mul]; exact Nat.mul_le_mul_right _ (by omega)
          obtain ⟨u, m, cs2, eu, hm, hcl2, hu⟩ := open_f hks K (far - 1) x n' cs1 (by omega) hn' (by omega)
          refine ⟨U.d u, m, [kn cs2], eCall_e (aCons_e (eVar_e rfl) (aCons_e (eVar_e rfl) (aCons_e (eVar_e rfl) (aCons_e (eF_e (aCons_e rfl (aCons_e (e2_e (eVar_e rfl) rfl (z := .int ((far : Nat) - 1)) rfl) aNil_e)) (d := .int ((far - 1 : Nat))) max0) (aCons_e (eVar_e rfl) aNil_e))))) eu, hm, us ++ [u], cs2, by rw [List.map_append]; rfl, rfl, ?_, ?_⟩
          · rw [List.length_append, List.length_singleton, Nat.succ_mul]; omega
          · rw [List.length_append, List.length_singleton, List.take_add_one, hi, hx]
            rw [hi] at hop
            refine hop.snoc (c2 := cs2) ?_
            rw [show far = far - 1 + 1 by omega]; exact hu) (n + 1) [kn cs] ⟨[], cs, rfl, rfl, by simp, rfl⟩ (by omega)
      rw [List.length_map] at hly
      rw [hly, List.take_of_length_le (Nat.le_refl _)] at hop
      refine ⟨.made mt.w us, m, cs', fn_ret rfl ?_, by omega, by rw [hly] at hcl; omega, mt, hmt, rfl, hop⟩
      refine (start _ _ rfl).trans ((bSeq_n ((sIf_f hc1).trans rfl)).trans ((est _).trans ?_))
      rw [U.d_made]
      exact sRet_r (eTup_e (aCons_e rfl (aCons_e (eVar_e rfl) (aCons_e (eF_e (aCons_e (eLc_e (iSeq_e (eVar_e rfl) (items_tup (by rw [List.length_map]; omega))) e3) aNil_e) rfl) aNil_e))))
end
end Sh


set_option Elab.async false
set_option linter.all false
set_option maxRecDepth 100000
namespace Sh
open PySem L2 Nf
/-- a thing of a kind whose names stand among those so far -/
def TyV (ks : List Kd) (cs : List Str) : Nat → Str → U → Prop
  | _ + 1, k, .name x => ∃ i, x = nmS i ∧ cs[i]? = some k
  | n + 1, k, .made w us => ∃ m ∈ msOf ks k, m.w = w ∧ us.length = m.ps.length ∧ ∀ (i : Nat) (p : Str) (u : U), m.ps[i]? = some p → us[i]? = some u → TyV ks cs n p u
  | _, _, _ => False
theorem TyV.mono {ks : List Kd} {cs : List Str} : ∀ {n n' : Nat} {k : Str} {u : U}, n ≤ n' → TyV ks cs n k u → TyV ks cs n' k u
  | 0, _, _, .made _ _, _, h => h.elim
  | 0, _, _, .name _, _, h => h.elim
  | 0, _, _, .skip, _, h => h.elim
  | n + 1, 0, _, _, hn, _ => by omega
  | n + 1, n' + 1, k, .name _, _, h => h
  | n + 1, n' + 1, k, .skip, _, h => h.elim
  | n + 1, n' + 1, k, .made w us, hn, ⟨m, a, b, c, d⟩ => ⟨m, a, b, c, fun i p u h1 h2 => (d i p u h1 h2).mono (by omega)⟩
theorem TyV.more {ks : List Kd} {cs : List Str} {ds : List Str} : ∀ {n : Nat} {k : Str} {u : U}, TyV ks cs n k u → TyV ks (cs ++ ds) n k u
  | 0, _, .made _ _, h => h.elim
  | 0, _, .name _, h => h.elim
  | 0, _, .skip, h => h.elim
  | n + 1, k, .name _, ⟨i, e, h⟩ => ⟨i, e, by rw [List.getElem?_append_left (List.getElem?_eq_some_iff.mp h).1]; exact h⟩
  | n + 1, k, .skip, h => h.elim
  | n + 1, k, .made w us, ⟨m, a, b, c, d⟩ => ⟨m, a, b, c, fun i p u h1 h2 => (d i p u h1 h2).more⟩
mutual
theorem Op.grow {ks : List Kd} : ∀ {n : Nat} {k : Str} {cs cs' : List Str} {u : U}, Op ks n k cs u cs' → ∃ ds, cs' = cs ++ ds
  | 0, _, _, _, .made _ _, h => h.elim
  | 0, _, _, _, .name _, h => h.elim
  | 0, _, _, _, .skip, h => h.elim
  | n + 1, k, cs, cs', .skip, h => h.elim
  | n + 1, k, cs, cs', .name x, h => by
    rcases h with ⟨i, _, _, rfl⟩ | ⟨_, rfl⟩
    · exact ⟨[], by simp⟩
    · exact ⟨[k], rfl⟩
  | n + 1, k, cs, cs', .made w us, ⟨m, a, b, h⟩ => OpL.grow h
termination_by n _ _ _ u => (n, 0)
theorem OpL.grow {ks : List Kd} : ∀ {n : Nat} {ps : List Str} {cs cs' : List Str} {us : List U}, OpL (Op ks n) ps cs us cs' → ∃ ds, cs' = cs ++ ds
  | n, [], cs, cs', [], h => ⟨[], by rw [List.append_nil]; exact h⟩
  | n, p :: ps, cs, cs', u :: us, ⟨c1, h1, h2⟩ => by
    obtain ⟨d1, rfl⟩ := Op.grow h1
    obtain ⟨d2, rfl⟩ := OpL.grow h2
    exact ⟨d1 ++ d2, by rw [List.append_assoc]⟩
  | n, [], _, _, _ :: _, h => h.elim
  | n, _ :: _, _, _, [], h => h.elim
termination_by n ps => (n, ps.length + 1)
end
theorem OpL.at {ks : List Kd} {n : Nat} : ∀ {ps : List Str} {cs cs' : List Str} {us : List U}, OpL (Op ks n) ps cs us cs' → us.length = ps.length ∧ ∀ (i : Nat) (p : Str) (u : U), ps[i]? = some p → us[i]? = some u → ∃ c1 c2 ds, Op ks n p c1 u c2 ∧ cs' = c2 ++ ds
  | [], cs, cs', [], h => ⟨rfl, fun i p u h1 => by simp at h1⟩
  | p :: ps, cs, cs', u :: us, ⟨c1, h1, h2⟩ => by
    obtain ⟨l, q⟩ := OpL.at h2
    refine ⟨by simp [l], fun i p' u' e1 e2 => ?_⟩
    cases i with
    | zero =>
      simp at e1 e2
      subst e1 e2
      obtain ⟨ds, rfl⟩ := h2.grow
      exact ⟨cs, c1, ds, h1, rfl⟩
    | succ i => exact q i p' u' (by simpa using e1) (by simpa using e2)
  | [], _, _, _ :: _, h => h.elim
  | _ :: _, _, _, [], h => h.elim
theorem Op.ty {ks : List Kd} : ∀ {n : Nat} {k : Str} {cs cs' : List Str} {u : U}, Op ks n k cs u cs' → TyV ks cs' n k u
  | 0, _, _, _, .made _ _, h => h.elim
  | 0, _, _, _, .name _, h => h.elim
  | 0, _, _, _, .skip, h => h.elim
  | n + 1, k, cs, cs', .skip, h => h.elim
  | n + 1, k, cs, cs', .name x, h => by
    rcases h with ⟨i, e, hi, rfl⟩ | ⟨rfl, rfl⟩
    · exact ⟨i, e, hi⟩
    · exact ⟨cs.length, rfl, by rw [List.getElem?_append_right (Nat.le_refl _), Nat.sub_self]; rfl⟩
  | n + 1, k, cs, cs', .made w us, ⟨m, a, b, h⟩ => by
    obtain ⟨l, q⟩ := h.at
    refine ⟨m, a, b, l, fun i p u h1 h2 => ?_⟩
    obtain ⟨c1, c2, ds, o, rfl⟩ := q i p u h1 h2
    exact (Op.ty o).more
mutual
theorem Op.mono {ks : List Kd} : ∀ {n n' : Nat} {k : Str} {cs cs' : List Str} {u : U}, n ≤ n' → Op ks n k cs u cs' → Op ks n' k cs u cs'
  | 0, _, _, _, _, .made _ _, _, h => h.elim
  | 0, _, _, _, _, .name _, _, h => h.elim
  | 0, _, _, _, _, .skip, _, h => h.elim
  | n + 1, 0, _, _, _, _, hn, _ => by omega
  | n + 1, n' + 1, k, cs, cs', .name _, _, h => h
  | n + 1, n' + 1, k, cs, cs', .skip, _, h => h.elim
  | n + 1, n' + 1, k, cs, cs', .made w us, hn, ⟨m, a, b, h⟩ => ⟨m, a, b, OpL.mono (by omega) h⟩
termination_by n => (n, 0)
theorem OpL.mono {ks : List Kd} : ∀ {n n' : Nat} {ps : List Str} {cs cs' : List Str} {us : List U}, n ≤ n' → OpL (Op ks n) ps cs us cs' → OpL (Op ks n') ps cs us cs'
  | n, n', [], cs, cs', [], _, h => h
  | n, n', p :: ps, cs, cs', u :: us, hn, ⟨c1, h1, h2⟩ => ⟨c1, Op.mono hn h1, OpL.mono hn h2⟩
  | n, n', [], _, _, _ :: _, _, h => h.elim
  | n, n', _ :: _, _, _, [], _, h => h.elim
termination_by n _ ps => (n, ps.length + 1)
end
/-! the names asked -/
def pr2 (p : Str × Str) : D := .tup [.str p.1, .str p.2]
def prU (p : Str × U) : D := .tup [.str p.1, p.2.d]
def n4 : List Str := ["x", "yy", "zeta", "b"]
def F_asked (f : Nat → Int) : List D → M D := fnA 2 6 (b_asked_names (nxS f))
def AsOk (ks : List Kd) (qs : List (Str × Str)) : Prop := 0 < qs.length ∧ qs.length ≤ 4 ∧ ∀ (i : Nat) (q : Str × Str), qs[i]? = some q → n4[i]? = some q.1
def F_fills (f : Nat → Int) : List D → M D := fnA 4 6 (b_open_fills (F_open f 3) (nxS f))
section
variable {f : Nat → Int} (hf : ∀ n, 0 ≤ f n ∧ f n < 1000)
include hf
theorem asked_f {ks : List Kd} (hks : KsOk ks) {n : Nat} {st : List D} (hn : n + 5 ≤ 2 ^ 40) : ∃ qs m, F_asked f [.deck, .tup (ks.map Kd.d)] (n, st) = some (.tup (qs.map pr2), m, st) ∧ m ≤ n + 5 ∧ AsOk ks qs := by
  have h1 := hf n
  have h4 := mod_range (k := f n) (m := 4) (by decide)
  have lo : (own ks).length ≤ 4 ∧ 0 < (own ks).length := by
    unfold own; rw [List.length_append, List.length_map]; have := hks.2.1; simp; omega
  have hpl : (0 : Int) < ((own ks).length : Int) := by omega
  obtain ⟨k, hk⟩ : ∃ k : Nat, 1 + f n % 4 = (k : Nat) := ⟨(1 + f n % 4).toNat, by omega⟩
  have e2' : e2 fAdd (eLc (iSeq (eVar 1)) (gN 4) tY (e2 fDG (eVar 4) (eC (.int 0))) [4]) (eLst (aCons (eC (.str ("truth" : Str))) aNil)) [some .deck, some (.tup (ks.map Kd.d)), none, none, none, none] (n, st) = some (.lst ((own ks).map .str), n, st) := by
    refine e2_e (eLc_e (iSeq_e (eVar_e rfl) (items_tup (by rw [List.length_map]; have := hks.2.1; omega))) (lcM_map (h := fun k => .str k.k) ks fun k hk => ⟨_, rfl, e2_e (eVar_e rfl) rfl rfl⟩)) (eLst_e (aCons_e rfl aNil_e)) (z := .lst ((own ks).map .str)) ?_
    have := hks.2.1
    rw [add_lst (by simp; omega)]
    unfold own
    rw [List.map_append, List.map_map]
    rfl
  obtain ⟨ys, m, ms2, e3, hm, hly, rfl, qs, rfl, hq⟩ := Ds.lcI (g := gN 5) (te := eTup (aCons (e2 fDG (eLst (aCons (eC (.str ("x" : Str))) (aCons (eC (.str ("yy" : Str))) (aCons (eC (.str ("zeta" : Str))) (aCons (eC (.str ("b" : Str))) aNil))))) (eVar 5)) (aCons (e2 fDG (eVar 2) (e2 fMod (eCall (nxS f) (aCons (eVar 0) aNil)) (eF (f1 fLen) (aCons (eVar 2) aNil)))) aNil)))
    (ρ := [some .deck, some (.tup (ks.map Kd.d)), some (.lst ((own ks).map .str)), some (.int (k : Nat)), none, none]) (f := fun (j : Nat) => D.int (0 + j)) (c := 1) (fun ys ms => ms = st ∧ ∃ qs : List (Str × Str), ys = qs.map pr2 ∧ ∀ (i : Nat) (q : Str × Str), qs[i]? = some q → n4[i]? = some q.1) (List.range k) [] (by
      intro i x hx ys hl
      have hik : i < k ∧ x = i := by
        have := (List.getElem?_eq_some_iff.mp hx).1
        rw [List.length_range] at this
        rw [List.getElem?_range this] at hx
        exact ⟨this, (Option.some.inj hx).symm⟩
      obtain ⟨hik, rfl⟩ := hik
      refine ⟨_, rfl, fun n' ms' hp hn' => ?_⟩
      obtain ⟨rfl, qs, rfl, hq⟩ := hp
      have hf' := hf n'
      have hr := mod_range (k := f n') hpl
      obtain ⟨kd, ekd, _, _⟩ := ix_lst (f := D.str) (xs := own ks) (i := f n' % ((own ks).length : Int)) hr.1 hr.2
      obtain ⟨nm, enm, _, gnm⟩ := ix_lst (f := D.str) (xs := n4) (i := 0 + (x : Int)) (by omega) (by show (0 + (x : Int)) < 4; omega)
      rw [show (0 + (x : Int)).toNat = x by omega] at gnm
      refine ⟨pr2 (nm, kd), n' + 1, ms', eTup_e (aCons_e (e2_e (eLst_e (aCons_e rfl (aCons_e rfl (aCons_e rfl (aCons_e rfl aNil_e))))) (eVar_e rfl) enm) (aCons_e (e2_e (eVar_e rfl) (e2_e (eCall_e (aCons_e (eVar_e rfl) aNil_e) (nx_e (by omega))) (eF_e (aCons_e (eVar_e rfl) aNil_e) (d := .int ((own ks).length : Nat)) (by show some (D.int _) = _; rw [List.length_map])) (mod_i hpl)) ekd) aNil_e)), by omega, rfl, qs ++ [(nm, kd)], by rw [List.map_append]; rfl, fun i q hi => ?_⟩
      by_cases hlt : i < qs.length
      · rw [List.getElem?_append_left hlt] at hi; exact hq i q hi
      · rw [List.getElem?_append_right (by omega)] at hi
        have h0 : i - qs.length = 0 := by
          have := (List.getElem?_eq_some_iff.mp hi).1
          simp at this; omega
        rw [h0] at hi
        cases hi
        have : qs.length = x := by simpa using hl
        rw [show i = x by omega]; exact gnm) (n + 1) st ⟨rfl, [], rfl, fun i q h => by simp at h⟩ (by rw [List.length_range]; omega)
  rw [List.length_map, List.length_range] at hly
  rw [List.length_range] at hm
  refine ⟨qs, m, fn_ret rfl ?_, by omega, by omega, by omega, hq⟩
  show b_asked_names (nxS f) [some .deck, some (.tup (ks.map Kd.d)), none, none, none, none] (n, ms2) = _
  unfold b_asked_names
  refine (bSeq_n (sSet_n e2')).trans ((bSeq_n (sSet_n (e2_e rfl (e2_e (eCall_e (aCons_e (eVar_e rfl) aNil_e) (nx_e (by omega))) rfl (mod_i (by decide))) (z := .int (k : Nat)) (by show some (D.int (1 + f n % 4)) = _; rw [hk])))).trans (sRet_r (eF_e (aCons_e (eLc_e (i1_e (eVar_e rfl) (r1_e (by omega))) ?_) aNil_e) rfl)))
  show lcM _ _ _ _ (rngD 0 (k : Int).toNat) _ = _
  unfold rngD
  rw [show (k : Int).toNat = k by omega]
  exact e3
theorem fills_f {ks : List Kd} (hks : KsOk ks) {qs : List (Str × Str)} (hqs : AsOk ks qs) {n : Nat} (hn : n + 60 ≤ 2 ^ 40) : ∃ us m cs, F_fills f [.deck, .tup (ks.map Kd.d), .tup (qs.map pr2), .shr 0] (n, [kn []]) = some (.tup (((qs.map Prod.fst).zip us).map prU), m, [kn cs]) ∧ m ≤ n + 60 ∧ cs.length ≤ 60 ∧ OpL (Op ks 3) (qs.map Prod.snd) [] us cs := by
  obtain ⟨ys, m, ms2, e3, hm, hly, us, cs, rfl, rfl, hus, hcl, hop⟩ := Ds.lcI (g := gT (gsC (gN 4) (gsC (gN 5) gsN))) (te := eTup (aCons (eVar 4) (aCons (eCall (F_open f 3) (aCons (eVar 0) (aCons (eVar 1) (aCons (eVar 5) (aCons (e2 fMod (eCall (nxS f) (aCons (eVar 0) aNil)) (eC (.int 3))) (aCons (eVar 3) aNil)))))) aNil)))
    (ρ := [some .deck, some (.tup (ks.map Kd.d)), some (.tup (qs.map pr2)), some (.shr 0), none, none]) (f := pr2) (c := 14) (fun ys ms => ∃ (us : List U) (cs : List Str), ys = (((qs.map Prod.fst).take us.length).zip us).map prU ∧ ms = [kn cs] ∧ us.length ≤ qs.length ∧ cs.length ≤ us.length * 13 ∧ OpL (Op ks 3) ((qs.map Prod.snd).take us.length) [] us cs) qs [] (by
      intro i x hx ys hl
      obtain ⟨nm, kd⟩ := x
      refine ⟨[some .deck, some (.tup (ks.map Kd.d)), some (.tup (qs.map pr2)), some (.shr 0), some (.str nm), some (.str kd)], rfl, fun n' ms' hp hn' => ?_⟩
      obtain ⟨us, cs1, rfl, rfl, hul, hcl, hop⟩ := hp
      have hil := (List.getElem?_eq_some_iff.mp hx).1
      have hi : us.length = i := by
        rw [List.length_map, List.length_zip, List.length_take, List.length_map] at hl
        simp at hl; omega
      have hf' := hf n'
      have hr := mod_range (k := f n') (m := 3) (by decide)
      obtain ⟨far, hfar⟩ : ∃ j : Nat, f n' % 3 = (j : Nat) := ⟨(f n' % 3).toNat, by omega⟩
      have hs : sc far ≤ 13 := by
        have : far = 0 ∨ far = 1 ∨ far = 2 := by omega
        rcases this with rfl | rfl | rfl <;> decide
      have hq4 := hqs.2.1
      obtain ⟨u, m, cs2, eu, hm, hcl2, hu⟩ := open_f hf hks 3 far kd (n' + 1) cs1 (by omega) (by omega) (by omega)
      have t1 : (qs.map Prod.fst).take (us.length + 1) = (qs.map Prod.fst).take us.length ++ [nm] := by rw [List.take_add_one, List.getElem?_map, hi, hx]; rfl
      have t2 : (qs.map Prod.snd).take (us.length + 1) = (qs.map Prod.snd).take us.length ++ [kd] := by rw [List.take_add_one, List.getElem?_map, hi, hx]; rfl
      refine ⟨prU (nm, u), m, [kn cs2], eTup_e (aCons_e (eVar_e rfl) (aCons_e (eCall_e (aCons_e (eVar_e rfl) (aCons_e (eVar_e rfl) (aCons_e (eVar_e rfl) (aCons_e (e2_e (eCall_e (aCons_e (eVar_e rfl) aNil_e) (nx_e (by omega))) rfl (z := .int (far : Nat)) (by rw [mod_i (by decide), hfar])) (aCons_e (eVar_e rfl) aNil_e))))) eu) aNil_e)), by omega, us ++ [u], cs2, ?_, rfl, by rw [List.length_append]; simp; omega, ?_, ?_⟩
      · rw [List.length_append, List.length_singleton, t1, List.zip_append (by rw [List.length_take, List.length_map]; omega), List.map_append]; rfl
      · rw [List.length_append, List.length_singleton, Nat.succ_mul]; omega
      · rw [List.length_append, List.length_singleton, t2]
        exact hop.snoc (hu.mono (by omega))) n [kn []] ⟨[], [], rfl, rfl, by simp, by simp, rfl⟩ (by have := hqs.2.1; omega)
  have hul : us.length = qs.length := by
    rw [List.length_map, List.length_zip, List.length_take, List.length_map] at hly; omega
  have hq4 := hqs.2.1
  have t1 : (qs.map Prod.fst).take us.length = qs.map Prod.fst := List.take_of_length_le (by rw [List.length_map]; omega)
  have t2 : (qs.map Prod.snd).take us.length = qs.map Prod.snd := List.take_of_length_le (by rw [List.length_map]; omega)
  rw [t2] at hop
  rw [t1] at e3
  refine ⟨us, m, cs, fn_ret rfl ?_, by omega, by omega, hop⟩
  exact sRet_r (eF_e (aCons_e (eLc_e (iSeq_e (eVar_e rfl) (items_tup (by rw [List.length_map]; omega))) e3) aNil_e) rfl)
end
end Sh


set_option Elab.async false
set_option linter.all false
set_option maxRecDepth 100000
namespace Sh
open PySem L2 Nf
def F_value (f : Nat → Int) : Nat → List D → M D
  | 0 => fun _ _ => none
  | k + 1 => fnA 5 12 (b_value (F_value f k) F_makers (nxS f))
section
variable {f : Nat → Int} (hf : ∀ n, 0 ≤ f n ∧ f n < 1000)
include hf
theorem value_f {ks : List Kd} (hks : KsOk ks) {cs : List Str} (hc : cs.length ≤ 100) : ∀ (K far : Nat) (kind : Str) (n : Nat), far < K → n + sc far ≤ 2 ^ 40 →
    ∃ u m, F_value f K [.deck, .tup (ks.map Kd.d), .shr 0, .str kind, .int (far : Nat)] (n, [kn cs]) = some (U.d u, m, [kn cs]) ∧ m ≤ n + sc far ∧ TyV ks cs (far + 1) kind u
  | 0, _, _, _, h, _ => by omega
  | K + 1, far, kind, n, hK, hn => by
    obtain ⟨l0, l3, hok⟩ := id hks
    have h1 := hf n
    have sp := sc_pos far
    obtain ⟨xs, ex, hxs⟩ := old_e (a := 2) (b := 3) (kind := kind) (cs := cs) (n := n + 1) (ms := [kn cs]) (ρ := [some .deck, some (.tup (ks.map Kd.d)), some (.shr 0), some (.str kind), some (.int (far : Nat)), some (.int (f n)), none, none, none, none, none, none]) rfl rfl rfl rfl (by decide) (by decide) (by omega)
    have start : ∀ t u : Bd, (t = bSeq (sSet 5 (eCall (nxS f) (aCons (eVar 0) aNil))) (bSeq (sSet 6 (eLc (i1 fR1 (e1S fLenD (eVar 2))) (gN 10) (trB (e2 fEq (e2S fDG (eVar 2) (eVar 10)) (eVar 3))) (eF (f1 fStr) (aCons (e2 fAdd (eVar 10) (eC (.int 1))) aNil)) [10])) u)) →
        t [some .deck, some (.tup (ks.map Kd.d)), some (.shr 0), some (.str kind), some (.int (far : Nat)), none, none, none, none, none, none, none] (n, [kn cs]) =
        u [some .deck, some (.tup (ks.map Kd.d)), some (.shr 0), some (.str kind), some (.int (far : Nat)), some (.int (f n)), some (.lst (xs.map .str)), none, none, none, none, none] (n + 1, [kn cs]) := fun t u h => by
      rw [h]
      exact (bSeq_n (sSet_n (eCall_e (aCons_e (eVar_e rfl) aNil_e) (nx_e (by omega))))).trans ((bSeq_n (sSet_n ex)).trans rfl)
    generalize hρ : ([some .deck, some (.tup (ks.map Kd.d)), some (.shr 0), some (.str kind), some (.int (far : Nat)), some (.int (f n)), some (.lst (xs.map .str)), none, none, none, none, none] : Sd) = ρ at start
    have r1 : ρ[1]? = some (some (.tup (ks.map Kd.d))) := by rw [← hρ]; rfl
    have r3 : ρ[3]? = some (some (.str kind)) := by rw [← hρ]; rfl
    have r5 : ρ[5]? = some (some (.int (f n))) := by rw [← hρ]; rfl
    have r6 : ρ[6]? = some (some (.lst (xs.map .str))) := by rw [← hρ]; rfl
    have o6 : ∀ x ∈ xs, okS x := fun x hx => by
      obtain ⟨i, rfl, hi⟩ := hxs x hx
      exact nmS_ok (by have := (List.getElem?_eq_some_iff.mp hi).1; omega)
    have tn : trB (e2 fNe (eVar 6) (eLst aNil)) ρ (n + 1, [kn cs]) = some (!xs.isEmpty, n + 1, [kn cs]) := trB_e (e2_e (eVar_e r6) (eLst_e aNil_e) (ne_nilS o6)) rfl
    have tg : trB (e2 fGt (e2 fMod (eVar 5) (eC (.int 3))) (eC (.int 0))) ρ (n + 1, [kn cs]) = some (decide (f n % 3 > 0), n + 1, [kn cs]) := trB_e (e2_e (e2_e (eVar_e r5) rfl (mod_i (by decide))) rfl rfl) rfl
    have tc2 : ∃ c : Bool, tAn (trB (e2 fNe (eVar 6) (eLst aNil))) (trB (e2 fGt (e2 fMod (eVar 5) (eC (.int 3))) (eC (.int 0)))) ρ (n + 1, [kn cs]) = some (c, n + 1, [kn cs]) ∧ (c = true → xs ≠ []) := by
      cases hx : xs with
      | nil => rw [hx] at tn; exact ⟨false, tAn_f tn, fun z => nomatch z⟩
      | cons a b => rw [hx] at tn; exact ⟨_, (tAn_t tn).trans tg, fun _ => by simp⟩
    obtain ⟨c2, hc2, hx2⟩ := tc2
    cases c2 with
    | true =>
      have hne := hx2 rfl
      have hpl : (0 : Int) < (xs.length : Int) := by cases xs with | nil => exact absurd rfl hne | cons _ _ => simp
      have hr := mod_range (k := f n / 3) hpl
      obtain ⟨x, e1, hx, _⟩ := ix_lst (f := D.str) (xs := xs) (i := f n / 3 % (xs.length : Int)) hr.1 hr.2
      obtain ⟨i, rfl, hi⟩ := hxs x hx
      refine ⟨.name (nmS i), n + 1, fn_ret rfl ?_, by omega, ⟨i, rfl, hi⟩⟩
      rw [U.d_name]
      exact (start _ _ rfl).trans (bSeq_r ((sIf_t hc2).trans (sRet_r (eTup_e (aCons_e rfl (aCons_e (e2_e (eVar_e r6) (e2_e (e2_e (eVar_e r5) rfl (div_i ⟨by decide, by decide⟩)) (eF_e (aCons_e (eVar_e r6) aNil_e) (d := .int (xs.length : Nat)) (by show some (D.int _) = _; rw [List.length_map])) (mod_i hpl)) e1) aNil_e))))))
    | false =>
      obtain ⟨q0, q3, qok, qh, _⟩ := msOf_ok hok kind
      have hml : (0 : Int) < ((msOf ks kind).length : Int) := by omega
      have hrm := mod_range (k := f n / 3) hml
      obtain ⟨mk, emk, hmk, gmk⟩ := ix_tup' (f := Mk.d) (xs := msOf ks kind) (i := f n / 3 % ((msOf ks kind).length : Int)) hrm.1 hrm.2
      obtain ⟨mk0, emk0, hmk0, gmk0⟩ := ix_tup' (f := Mk.d) (xs := msOf ks kind) (i := 0) (by decide) (by omega)
      have hp0 : mk0.ps = [] := qh mk0 (by rw [List.head?_eq_getElem?]; exact gmk0)
      obtain ⟨mt, hmt, hmt0, est⟩ : ∃ mt : Mk, mt ∈ msOf ks kind ∧ (far = 0 → mt.ps = []) ∧ ∀ t : Bd, bSeq (sSet 7 (eCall F_makers (aCons (eVar 1) (aCons (eVar 3) aNil)))) (bSeq (sAsg (e2 fDG (eVar 7) (e2 fMod (e2 fDiv (eVar 5) (eC (.int 3))) (eF (f1 fLen) (aCons (eVar 7) aNil)))) (gT (gsC (gN 8) (gsC (gN 9) gsN)))) (bSeq (sIf (trB (e2 fEq (eVar 4) (eC (.int 0)))) (sAsg (e2 fDG (eVar 7) (eC (.int 0))) (gT (gsC (gN 8) (gsC (gN 9) gsN)))) bNil) t)) ρ (n + 1, [kn cs]) =
          t [some .deck, some (.tup (ks.map Kd.d)), some (.shr 0), some (.str kind), some (.int (far : Nat)), some (.int (f n)), some (.lst (xs.map .str)), some (.tup ((msOf ks kind).map Mk.d)), some (.str mt.w), some (.tup (mt.ps.map .str)), none, none] (n + 1, [kn cs]) := by
        have first : ∀ t : Bd, bSeq (sSet 7 (eCall F_makers (aCons (eVar 1) (aCons (eVar 3) aNil)))) (bSeq (sAsg (e2 fDG (eVar 7) (e2 fMod (e2 fDiv (eVar 5) (eC (.int 3))) (eF (f1 fLen) (aCons (eVar 7) aNil)))) (gT (gsC (gN 8) (gsC (gN 9) gsN)))) t) ρ (n + 1, [kn cs]) =
          t [some .deck, some (.tup (ks.map Kd.d)), some (.shr 0), some (.str kind), some (.int (far : Nat)), some (.int (f n)), some (.lst (xs.map .str)), some (.tup ((msOf ks kind).map Mk.d)), some (.str mk.w), some (.tup (mk.ps.map .str)), none, none] (n + 1, [kn cs]) := fun t => by
          refine (bSeq_n (sSet_n (eCall_e (aCons_e (eVar_e r1) (aCons_e (eVar_e r3) aNil_e)) (makers_f (by omega))))).trans ?_
          rw [← hρ]
          exact bSeq_n (sAsg_n (d := Mk.d mk) (e2_e (eVar_e rfl) (e2_e (e2_e (eVar_e rfl) rfl (div_i ⟨by decide, by decide⟩)) (eF_e (aCons_e (eVar_e rfl) aNil_e) (d := .int ((msOf ks kind).length : Nat)) (by show some (D.int _) = _; rw [List.length_map])) (mod_i hml)) emk) rfl)
        by_cases hz : far = 0
        · exact ⟨mk0, hmk0, fun _ => hp0, fun t => (first _).trans (bSeq_n ((sIf_t (tEqI_t (x := (far : Nat)) (eVar_e rfl) rfl (by omega))).trans (sAsg_n (d := Mk.d mk0) (e2_e (eVar_e rfl) rfl emk0) rfl)))⟩
        · exact ⟨mk, hmk, fun z => absurd z hz, fun t => (first _).trans (bSeq_n ((sIf_f (tEqI_f (x := (far : Nat)) (eVar_e rfl) rfl (by omega))).trans rfl))⟩
      obtain ⟨ow, lp, hpk⟩ := qok mt hmt
      have hsc : sc far = if far = 0 then 1 else 1 + 3 * sc (far - 1) := by
        cases far with
        | zero => rfl
        | succ k => rfl
      have hlp : mt.ps.length * sc (far - 1) + 1 ≤ sc far := by
        by_cases hz : far = 0
        · rw [hmt0 hz, hsc, if_pos hz]; simp
        · rw [hsc, if_neg hz]; have := Nat.mul_le_mul_right (sc (far - 1)) lp; omega
      obtain ⟨ys, m, ms2, e3, hm, hly, rfl, us, rfl, hus⟩ := Ds.lcI (g := gN 11) (te := eCall (F_value f K) (aCons (eVar 0) (aCons (eVar 1) (aCons (eVar 2) (aCons (eVar 11) (aCons (eF (f2 fMax2) (aCons (eC (.int 0)) (aCons (e2 fSub (eVar 4) (eC (.int 1))) aNil))) aNil))))))
        (ρ := [some .deck, some (.tup (ks.map Kd.d)), some (.shr 0), some (.str kind), some (.int (far : Nat)), some (.int (f n)), some (.lst (xs.map .str)), some (.tup ((msOf ks kind).map Mk.d)), some (.str mt.w), some (.tup (mt.ps.map .str)), none, none])
        (f := D.str) (c := sc (far - 1)) (fun ys ms => ms = [kn cs] ∧ UsAt (fun i u => ∀ p, mt.ps[i]? = some p → TyV ks cs far p u) ys) mt.ps [] (by
          intro i x hx ys hl
          have hfar : 0 < far := by
            rcases Nat.eq_zero_or_pos far with z | z
            · rw [hmt0 z] at hx; simp at hx
            · exact z
          refine ⟨_, rfl, fun n' ms' hp hn' => ?_⟩
          obtain ⟨rfl, hus⟩ := hp
          obtain ⟨u, m, eu, hm, hu⟩ := value_f hks hc K (far - 1) x n' (by omega) hn'
          refine ⟨U.d u, m, [kn cs], eCall_e (aCons_e (eVar_e rfl) (aCons_e (eVar_e rfl) (aCons_e (eVar_e rfl) (aCons_e (eVar_e rfl) (aCons_e (eF_e (aCons_e rfl (aCons_e (e2_e (eVar_e rfl) rfl (z := .int ((far : Nat) - 1)) rfl) aNil_e)) (d := .int ((far - 1 : Nat))) max0) aNil_e))))) eu, hm, rfl, hus.snoc fun p hp => ?_⟩
          rw [show ys.length = i by simpa using hl] at hp
          rw [hx] at hp; cases hp
          rw [show far = far - 1 + 1 by omega]; exact hu) (n + 1) [kn cs] ⟨rfl, UsAt.nil⟩ (by omega)
      rw [List.length_map] at hly
      refine ⟨.made mt.w us, m, fn_ret rfl ?_, by omega, mt, hmt, rfl, hly, fun i p u h1 h2 => hus i u h2 p h1⟩
      refine (start _ _ rfl).trans ((bSeq_n ((sIf_f hc2).trans rfl)).trans ((est _).trans ?_))
      rw [U.d_made]
      exact sRet_r (eTup_e (aCons_e rfl (aCons_e (eVar_e rfl) (aCons_e (eF_e (aCons_e (eLc_e (iSeq_e (eVar_e rfl) (items_tup (by rw [List.length_map]; omega))) e3) aNil_e) rfl) aNil_e))))
end
/-! filled -/
def sb (rs : As) : U → U
  | .name x => (lk rs x).getD (.name x)
  | .skip => .skip
  | .made w us => .made w (us.map (sb rs))
theorem sb_name (rs : As) (x : Str) : sb rs (.name x) = (lk rs x).getD (.name x) := by rw [sb]
theorem sb_made (rs : As) (w : Str) (us : List U) : sb rs (.made w us) = .made w (us.map (sb rs)) := by rw [sb]
def F_filled : Nat → List D → M D
  | 0 => fun _ _ => none
  | k + 1 => fnA 2 5 (b_filled (F_filled k))
theorem fl_loop {x : Str} {X : D} {n : Sx} : ∀ (rs : As) (x2 x3 x4 : Option D), ∃ fl, fM (gT (gsC (gN 2) (gsC (gN 3) gsN))) l1_filled (rs.map prU) [some (U.name x).d, some X, x2, x3, x4] n = some (fl, n) ∧
    match lk rs x with
    | some v => fl = .ret v.d
    | none => ∃ y2 y3, fl = .next [some (U.name x).d, some X, y2, y3, x4]
  | [], x2, x3, x4 => ⟨_, rfl, x2, x3, rfl⟩
  | p :: r, x2, x3, x4 => by
    have g : (gT (gsC (gN 2) (gsC (gN 3) gsN))) (prU p) [some (U.name x).d, some X, x2, x3, x4] = some [some (U.name x).d, some X, some (.str p.1), some p.2.d, x4] := rfl
    have T : trB (e2 fEq (eVar 2) (e2 fDG (eVar 0) (eC (.int 1)))) [some (U.name x).d, some X, some (.str p.1), some p.2.d, x4] n = some (decide (p.1 = x), n) := trB_e (e2_e (eVar_e rfl) (e2_e (eVar_e rfl) rfl (ixG_name1 x)) eq_str) rfl
    unfold lk
    by_cases h : p.1 = x
    · rw [decide_eq_true h] at T
      rw [if_pos h]
      exact ⟨_, fM_ret g ((sIf_t T).trans (sRet_r (eVar_e rfl))), rfl⟩
    · rw [decide_eq_false h] at T
      rw [if_neg h]
      obtain ⟨fl, h1, h2⟩ := fl_loop r (some (.str p.1)) (some p.2.d) x4
      exact ⟨fl, (by rw [List.map_cons]; exact (fM_next g ((sIf_f T).trans rfl)).trans h1), h2⟩
theorem hd_name (x : Str) : (U.name x).hd = "name" := rfl
theorem hd_made (w : Str) (us : List U) : (U.made w us).hd = "made" := rfl
theorem filled_f {ks : List Kd} {cs : List Str} {rs : As} (hks : KsOk ks) (hrs : rs.length ≤ 1000) {n : Sx} : ∀ (K k : Nat) (kind : Str) (u : U), TyV ks cs k kind u → k ≤ K → F_filled K [u.d, .lst (rs.map prU)] n = some ((sb rs u).d, n)
  | 0, 0, _, .made _ _, h, _ => h.elim
  | 0, 0, _, .name _, h, _ => h.elim
  | 0, 0, _, .skip, h, _ => h.elim
  | 0, k + 1, _, _, _, hk => by omega
  | K + 1, 0, _, .made _ _, h, _ => h.elim
  | K + 1, 0, _, .name _, h, _ => h.elim
  | K + 1, 0, _, .skip, h, _ => h.elim
  | K + 1, k + 1, _, .skip, h, _ => h.elim
  | K + 1, k + 1, kind, .name x, h, _ => by
    refine fn_ret rfl ?_
    show b_filled (F_filled K) [some (U.name x).d, some (.lst (rs.map prU)), none, none, none] n = _
    unfold b_filled
    have T : trB (e2 fEq (e2 fDG (eVar 0) (eC (.int 0))) (eC (.str ("name" : Str)))) [some (U.name x).d, some (.lst (rs.map prU)), none, none, none] n = some (true, n) := tEq_t (x := "name") (e2_e (eVar_e rfl) rfl (U.ixG0 _)) rfl
    obtain ⟨fl, h1, h2⟩ := fl_loop (x := x) (X := .lst (rs.map prU)) (n := n) rs none none none
    have hF : sFor (iSeq (eVar 1)) (gT (gsC (gN 2) (gsC (gN 3) gsN))) l1_filled [some (U.name x).d, some (.lst (rs.map prU)), none, none, none] n = some (fl, n) := (sFor_i (iSeq_e (eVar_e rfl) (items_lst (by rw [List.length_map]; omega)))).trans h1
    rw [sb_name]
    cases hl : lk rs x with
    | some v => rw [hl] at h2; subst h2; exact bSeq_r ((sIf_t T).trans (bSeq_r hF))
    | none => rw [hl] at h2; obtain ⟨y2, y3, rfl⟩ := h2; exact bSeq_r ((sIf_t T).trans ((bSeq_n hF).trans (sRet_r (eVar_e rfl))))
  | K + 1, k + 1, kind, .made w us, ⟨m, hm, e, hl, hq⟩, hk => by
    refine fn_ret rfl ?_
    show b_filled (F_filled K) [some (U.made w us).d, some (.lst (rs.map prU)), none, none, none] n = _
    unfold b_filled
    have E0 : e2 fDG (eVar 0) (eC (.int 0)) [some (U.made w us).d, some (.lst (rs.map prU)), none, none, none] n = some (.str "made", n) := e2_e (eVar_e rfl) rfl (U.ixG0 _)
    have hl3 : us.length ≤ 3 := by
      obtain ⟨_, _, qok, _⟩ := msOf_ok hks.2.2 kind
      have := (qok m hm).2.1
      omega
    have L := lcM_map (g := gN 4) (te := eCall (F_filled K) (aCons (eVar 4) (aCons (eVar 1) aNil))) (ρ := [some (U.made w us).d, some (.lst (rs.map prU)), none, none, none]) (n := n) (f := U.d) (h := fun u => (sb rs u).d) us fun u hu => by
      obtain ⟨i, hi⟩ := List.mem_iff_getElem?.mp hu
      obtain ⟨p, hp⟩ := get_of_len hl hi
      exact ⟨_, rfl, eCall_e (aCons_e (eVar_e rfl) (aCons_e (eVar_e rfl) aNil_e)) (filled_f hks hrs K k p u (hq i p u hp hi) (by omega))⟩
    refine (bSeq_n ((sIf_f (tEq_f (x := "made") E0 rfl)).trans rfl)).trans (bSeq_r ((sIf_t (tOr_t (tEq_t (x := "made") E0 rfl))).trans ?_))
    rw [sb_made, U.d_made w (us.map (sb rs)), List.map_map]
    exact sRet_r (eTup_e (aCons_e E0 (aCons_e (e2_e (eVar_e rfl) rfl (ixG_made1 w us)) (aCons_e (eF_e (aCons_e (eLc_e (iSeq_e (e2_e (eVar_e rfl) rfl (ixG_made2 w us)) (items_tup (by rw [List.length_map]; omega))) L) aNil_e) rfl) aNil_e))))
theorem sb_ty {ks : List Kd} {cs : List Str} {rs : As} {e : Nat} (h : ∀ (i : Nat) (k : Str), cs[i]? = some k → ∃ v, lk rs (nmS i) = some v ∧ Ty ks e k v) : ∀ {n : Nat} {k : Str} {u : U}, TyV ks cs n k u → Ty ks (n + e) k (sb rs u)
  | 0, _, .made _ _, h => h.elim
  | 0, _, .name _, h => h.elim
  | 0, _, .skip, h => h.elim
  | n + 1, k, .skip, h => h.elim
  | n + 1, k, .name x, ⟨i, ex, hi⟩ => by
    obtain ⟨v, hv, tv⟩ := h i k hi
    rw [sb_name, ex, hv]
    exact tv.mono (by omega)
  | n + 1, k, .made w us, ⟨m, a, b, c, d⟩ => by
    rw [sb_made, show n + 1 + e = n + e + 1 by omega]
    refine ⟨m, a, b, by rw [List.length_map]; exact c, fun i p u h1 h2 => ?_⟩
    rw [List.getElem?_map] at h2
    obtain ⟨v, hv, rfl⟩ := Option.map_eq_some_iff.mp h2
    exact sb_ty h (d i p v h1 hv)
end Sh


set_option Elab.async false
set_option linter.all false
set_option maxRecDepth 100000
namespace Sh
open PySem L2 Nf
theorem U.layA {n : Nat} : ∀ qs : List U, (∀ p ∈ qs, U.ok n p) → PyData.canLayAll0 (U.pA qs) = true ∧ PyData.depthAll (U.pA qs) ≤ 2 * n
  | [], _ => by simp [U.pA, PyData.canLayAll0, PyData.depthAll]
  | q :: r, hq => by
    obtain ⟨a1, a2⟩ := U.lay (hq q (by simp))
    obtain ⟨b1, b2⟩ := U.layA r fun p hp => hq p (by simp [hp])
    simp only [U.pA, PyData.canLayAll0, PyData.depthAll, a1, b1]
    exact ⟨rfl, by omega⟩
theorem eq_nil {n : Nat} {ps : List U} (h : ∀ p ∈ ps, U.ok n p) (hn : n ≤ 31) : fEq (.tup (ps.map U.d)) (.tup []) = some (.bl ps.isEmpty) := by
  obtain ⟨a, b⟩ := U.layA ps h
  have s1 : SeqAt.shaped (.tuple (U.pA ps)) = true := by
    have d : (PyData.tuple (U.pA ps)).depth ≤ 64 := by simp only [PyData.depth]; omega
    have c : (PyData.tuple (U.pA ps)).canLay0 = true := by simp only [PyData.canLay0]; exact a
    unfold SeqAt.shaped
    rw [c, decide_eq_true d]; rfl
  have e1 : (D.tup (ps.map U.d)).py = some (.tuple (U.pA ps)) := by
    rw [← U.dA_map]
    simp only [D.py, U.pyA, Option.map_some]
  unfold fEq
  rw [eqb_tup e1 (show (D.tup []).py = some (.tuple []) from rfl) s1 (by decide +kernel)]
  cases ps <;> rfl
theorem cut_take {ds : List D} {j : Nat} (h : j ≤ ds.length) : cutD ds none (some (j : Int)) = ds.take j := by
  show (ds.drop 0).take (HT.sIx ds.length ds.length (some ((j : Nat) : Int)) - 0) = _
  rw [HT.sIx_nat, List.drop_zero, Nat.sub_zero, Nat.min_eq_left h]
theorem cut_drop {ds : List D} {j : Nat} (h : j ≤ ds.length) : cutD ds (some (j : Int)) none = ds.drop j := by
  show (ds.drop (HT.sIx ds.length 0 (some ((j : Nat) : Int)))).take (ds.length - HT.sIx ds.length 0 (some ((j : Nat) : Int))) = _
  rw [HT.sIx_nat, Nat.min_eq_left h]
  exact List.take_of_length_le (by rw [List.length_drop]; exact Nat.le_refl _)
def F_oth (f : Nat → Int) : Nat → List D → M D
  | 0 => fun _ _ => none
  | k + 1 => fnA 4 8 (b_otherwise (F_oth f k) F_makers (F_plain f 2) (nxS f))
theorem flt_one {ms : List Mk} (hu : Uq ms) {m : Mk} (hm : m ∈ ms) : ∃ r, (ms.filter fun q => decide (q.w = m.w)) = m :: r := by
  have hmem : m ∈ ms.filter fun q => decide (q.w = m.w) := List.mem_filter.mpr ⟨hm, by simp⟩
  cases h : ms.filter fun q => decide (q.w = m.w) with
  | nil => rw [h] at hmem; simp at hmem
  | cons a r =>
    have ha : a ∈ ms.filter fun q => decide (q.w = m.w) := by rw [h]; simp
    obtain ⟨h1, h2⟩ := List.mem_filter.mp ha
    obtain ⟨i, hi⟩ := List.mem_iff_getElem?.mp h1
    obtain ⟨j, hj⟩ := List.mem_iff_getElem?.mp hm
    have := hu i j a m hi hj (of_decide_eq_true h2)
    subst this
    rw [hi] at hj
    cases hj
    exact ⟨r, rfl⟩
theorem ix_zero {a : D} {l : List D} : fDG (.lst (a :: l)) (.int 0) = some a := by
  show L2.atI (a :: l) 0 = some a
  unfold L2.atI ixN
  rw [if_pos (by decide), if_pos (by rw [List.length_cons]; omega)]
  rfl
section
variable {f : Nat → Int} (hf : ∀ n, 0 ≤ f n ∧ f n < 1000)
include hf
theorem oth_f {ks : List Kd} (hks : KsOk ks) : ∀ (k : Nat) (kind : Str) (u : U) (n : Nat) (st : List D), Ty ks k kind u → k ≤ 12 → n + k + 4 ≤ 2 ^ 40 → ∃ v m, F_oth f k [.deck, .tup (ks.map Kd.d), u.d, .str kind] (n, st) = some (U.d v, m, st) ∧ m ≤ n + k + 4 ∧ Ty ks (k + 2) kind v
  | 0, _, .made _ _, _, _, h, _, _ => h.elim
  | 0, _, .name _, _, _, h, _, _ => h.elim
  | 0, _, .skip, _, _, h, _, _ => h.elim
  | k + 1, _, .name _, _, _, h, _, _ => h.elim
  | k + 1, _, .skip, _, _, h, _, _ => h.elim
  | k + 1, kind, .made w ps, n, st, ⟨mt, hmt, ew, hl, hq⟩, hk, hn => by
    have h1 := hf n
    obtain ⟨q0, q3, qok, qh, quq⟩ := msOf_ok hks.2.2 kind
    have hps : ∀ p ∈ ps, U.ok k p := fun p hp => by
      obtain ⟨i, hi⟩ := List.mem_iff_getElem?.mp hp
      obtain ⟨q, hq'⟩ := get_of_len hl hi
      exact (hq i q p hq' hi).ok hks
    have fst : ∀ t : Bd, bSeq (sSet 4 (eCall (nxS f) (aCons (eVar 0) aNil))) t [some .deck, some (.tup (ks.map Kd.d)), some (U.made w ps).d, some (.str kind), none, none, none, none] (n, st) = t [some .deck, some (.tup (ks.map Kd.d)), some (U.made w ps).d, some (.str kind), some (.int (f n)), none, none, none] (n + 1, st) := fun t => bSeq_n (sSet_n (eCall_e (aCons_e (eVar_e rfl) aNil_e) (nx_e (by omega))))
    have p2 : ∀ ρ : Sd, ∀ m : Sx, ρ[2]? = some (some (U.made w ps).d) → e2 fDG (eVar 2) (eC (.int 2)) ρ m = some (.tup (ps.map U.d), m) := fun ρ m h => e2_e (eVar_e h) rfl (ixG_made2 w ps)
    have t1 : trB (e2 fEq (e2 fDG (eVar 2) (eC (.int 2))) (eTup aNil)) [some .deck, some (.tup (ks.map Kd.d)), some (U.made w ps).d, some (.str kind), some (.int (f n)), none, none, none] (n + 1, st) = some (ps.isEmpty, n + 1, st) := trB_e (e2_e (p2 _ _ rfl) (eTup_e aNil_e) (eq_nil hps (by omega))) rfl
    have m3 : trB (e2 fEq (e2 fMod (eVar 4) (eC (.int 3))) (eC (.int 0))) [some .deck, some (.tup (ks.map Kd.d)), some (U.made w ps).d, some (.str kind), some (.int (f n)), none, none, none] (n + 1, st) = some (decide (f n % 3 = 0), n + 1, st) := trB_e (e2_e (e2_e (eVar_e rfl) rfl (mod_i (by decide))) rfl eq_int) rfl
    by_cases hc : ps.isEmpty = true ∨ f n % 3 = 0
    · have T : tOr' (trB (e2 fEq (e2 fDG (eVar 2) (eC (.int 2))) (eTup aNil))) (trB (e2 fEq (e2 fMod (eVar 4) (eC (.int 3))) (eC (.int 0)))) [some .deck, some (.tup (ks.map Kd.d)), some (U.made w ps).d, some (.str kind), some (.int (f n)), none, none, none] (n + 1, st) = some (true, n + 1, st) := by
        cases hb : ps.isEmpty with
        | true => rw [hb] at t1; exact tOr_t t1
        | false =>
          rw [hb] at t1
          rw [decide_eq_true (hc.resolve_left (by rw [hb]; decide))] at m3
          exact (tOr_f t1).trans m3
      obtain ⟨v, m, ev, hm, hv⟩ := plain_f hf hks 2 1 kind (n + 1) st (by decide) (by show n + 1 + 4 ≤ _; omega)
      have hm' : m ≤ n + 1 + 4 := hm
      exact ⟨v, m, fn_ret rfl ((fst _).trans (bSeq_r ((sIf_t T).trans (sRet_r (eCall_e (aCons_e (eVar_e rfl) (aCons_e (eVar_e rfl) (aCons_e (eVar_e rfl) (aCons_e rfl aNil_e)))) ev))))), by omega, hv.mono (by omega)⟩
    · rw [not_or] at hc
      have hb : ps.isEmpty = false := by simpa using hc.1
      rw [hb] at t1
      rw [decide_eq_false hc.2] at m3
      have hpl : 0 < ps.length := by cases ps with | nil => cases hb | cons _ _ => simp
      have hp3 : ps.length ≤ 3 := by have := (qok mt hmt).2.1; omega
      have hpi : (0 : Int) < (ps.length : Int) := by omega
      have hrp := mod_range (k := f n / 3) hpi
      obtain ⟨p, ep, hp, gp⟩ := ix_tup' (f := U.d) (xs := ps) (i := f n / 3 % (ps.length : Int)) hrp.1 hrp.2
      obtain ⟨j, hj⟩ : ∃ j : Nat, f n / 3 % (ps.length : Int) = (j : Nat) := ⟨(f n / 3 % (ps.length : Int)).toNat, by omega⟩
      have hjl : j < ps.length := by omega
      rw [hj] at ep gp
      rw [show ((j : Nat) : Int).toNat = j by omega] at gp
      obtain ⟨pk, epk, _, gpk⟩ := ix_tup' (f := D.str) (xs := mt.ps) (i := (j : Nat)) (by omega) (by omega)
      rw [show ((j : Nat) : Int).toNat = j by omega] at gpk
      obtain ⟨v, m, ev, hm, hv⟩ := oth_f hks k pk p (n + 1) st (hq j pk p gpk gp) (by omega) (by omega)
      obtain ⟨r, hr⟩ := flt_one quq hmt
      have L := lcM_flt (g := gN 7) (tt := trB (e2 fEq (e2 fDG (eVar 7) (eC (.int 0))) (e2 fDG (eVar 2) (eC (.int 1))))) (te := e2 fDG (eVar 7) (eC (.int 1))) (ρ := [some .deck, some (.tup (ks.map Kd.d)), some (U.made w ps).d, some (.str kind), some (.int (f n)), some (.int (j : Nat)), none, none]) (n := (n + 1, st)) (f := Mk.d) (h := fun q => .tup (q.ps.map .str)) (p := fun q => decide (q.w = mt.w)) (msOf ks kind) fun q _ => by
        refine ⟨_, rfl, ?_, e2_e (eVar_e rfl) rfl rfl⟩
        rw [ew]
        exact trB_e (e2_e (e2_e (eVar_e rfl) rfl (z := .str q.w) rfl) (e2_e (eVar_e rfl) rfl (ixG_made1 w ps)) eq_str) rfl
      rw [hr, List.map_cons] at L
      refine ⟨.made w (ps.take j ++ [v] ++ ps.drop (j + 1)), m, fn_ret rfl ?_, by omega, ?_⟩
      · show b_otherwise (F_oth f k) F_makers (F_plain f 2) (nxS f) [some .deck, some (.tup (ks.map Kd.d)), some (U.made w ps).d, some (.str kind), none, none, none, none] (n, st) = _
        unfold b_otherwise
        refine (fst _).trans ((bSeq_n ((sIf_f ((tOr_f t1).trans m3)).trans rfl)).trans ((bSeq_n (sSet_n (d := .int (j : Nat)) (e2_e (e2_e (eVar_e rfl) rfl (div_i ⟨by decide, by decide⟩)) (eF_e (aCons_e (p2 _ _ rfl) aNil_e) (d := .int (ps.length : Nat)) (by show some (D.int _) = _; rw [List.length_map])) (by rw [mod_i hpi, hj])))).trans ((bSeq_n (sSet_n (d := .str pk) (e2_e (e2_e (eLc_e (iSeq_e (eCall_e (aCons_e (eVar_e rfl) (aCons_e (eVar_e rfl) aNil_e)) (makers_f (by have := hks.2.1; omega))) (items_tup (by rw [List.length_map]; omega))) L) rfl (z := .tup (mt.ps.map .str)) ix_zero) (eVar_e rfl) epk))).trans ?_)))
        have er : (U.made w (ps.take j ++ [v] ++ ps.drop (j + 1))).d = .tup [.str "made", .str w, .tup ((ps.map U.d).take j ++ [U.d v] ++ (ps.map U.d).drop (j + 1))] := by
          rw [U.d_made, List.map_append, List.map_append, List.map_take, List.map_drop]; rfl
        rw [er]
        have sl1 : ∀ (ρ : Sd) (m : Sx), ρ[2]? = some (some (U.made w ps).d) → ρ[5]? = some (some (.int (j : Nat))) → eSl (e2 fDG (eVar 2) (eC (.int 2))) (fun _ => Mp none) (pSome (eVar 5)) ρ m = some (.tup ((ps.map U.d).take j), m) := fun ρ m r1 r4 => by
          unfold eSl Mb
          rw [p2 ρ m r1]
          simp only [Mp, pSome, Mb, eVar_e r4]
          show Mo (some (D.tup (cutD (ps.map U.d) none (some (j : Int))))) m = _
          rw [cut_take (by rw [List.length_map]; omega)]; rfl
        have sl2 : ∀ (ρ : Sd) (m : Sx), ρ[2]? = some (some (U.made w ps).d) → ρ[5]? = some (some (.int (j : Nat))) → eSl (e2 fDG (eVar 2) (eC (.int 2))) (pSome (e2 fAdd (eVar 5) (eC (.int 1)))) (fun _ => Mp none) ρ m = some (.tup ((ps.map U.d).drop (j + 1)), m) := fun ρ m r1 r4 => by
          unfold eSl Mb
          rw [p2 ρ m r1]
          have e4 : e2 fAdd (eVar 5) (eC (.int 1)) ρ m = some (.int ((j + 1 : Nat)), m) := e2_e (eVar_e r4) rfl rfl
          simp only [Mp, pSome, Mb, e4]
          show Mo (some (D.tup (cutD (ps.map U.d) (some ((j + 1 : Nat) : Int)) none))) m = _
          rw [cut_drop (by rw [List.length_map]; omega)]; rfl
        refine sRet_r (eTup_e (aCons_e rfl (aCons_e (e2_e (eVar_e rfl) rfl (ixG_made1 w ps)) (aCons_e (e2_e (e2_e (sl1 _ _ rfl rfl) (eTup_e (aCons_e (eCall_e (aCons_e (eVar_e rfl) (aCons_e (eVar_e rfl) (aCons_e (e2_e (p2 _ _ rfl) (eVar_e rfl) ep) (aCons_e (eVar_e rfl) aNil_e)))) ev) aNil_e)) (add_tup (by simp; omega))) (sl2 _ _ rfl rfl) (add_tup (by simp; omega))) aNil_e))))
      · rw [show k + 1 + 2 = (k + 2) + 1 by omega]
        refine ⟨mt, hmt, ew, by simp; omega, fun i q z e1 e2 => ?_⟩
        by_cases hij : i = j
        · subst hij
          rw [gpk] at e1; cases e1
          rw [List.append_assoc, List.getElem?_append_right (by rw [List.length_take]; omega), List.length_take, Nat.min_eq_left (by omega), Nat.sub_self] at e2
          cases e2
          exact hv
        · have : ps[i]? = some z := by
            by_cases hlt : i < j
            · rw [List.append_assoc, List.getElem?_append_left (by rw [List.length_take]; omega), List.getElem?_take_of_lt hlt] at e2
              exact e2
            · rw [List.getElem?_append_right (by rw [List.length_append, List.length_take]; simp; omega), List.length_append, List.length_take, Nat.min_eq_left (by omega), List.length_singleton, List.getElem?_drop, show j + 1 + (i - (j + 1)) = i by omega] at e2
              exact e2
          exact (hq i q z e1 this).mono (by omega)
end
end Sh


set_option Elab.async false
set_option linter.all false
set_option maxRecDepth 100000
namespace Sh
open PySem L2 Nf
/-! fills: two ways -/
open Classical in
noncomputable def add (x : Str) (g : U) (σ : As) : Option As := match lk σ x with
  | none => some (σ ++ [(x, g)])
  | some g' => if g' = g then some σ else none
mutual
noncomputable def mt : U → U → As → Option As
  | .name x, g, σ => add x g σ
  | .made w ps, .made w' qs, σ => if w = w' ∧ ps.length = qs.length then mtA ps qs σ else none
  | _, _, _ => none
noncomputable def mtA : List U → List U → As → Option As
  | p :: ps, q :: qs, σ => (mt p q σ).bind (mtA ps qs)
  | _, _, σ => some σ
end
noncomputable def mtL : List (U × U) → As → Option As
  | [], σ => some σ
  | p :: r, σ => (mt p.1 p.2 σ).bind (mtL r)
theorem mtA_zip : ∀ (ps qs : List U) (σ : As), mtA ps qs σ = mtL (ps.zip qs) σ
  | [], _, _ => by simp [mtA, mtL]
  | _ :: _, [], _ => by simp [mtA, mtL]
  | p :: ps, q :: qs, σ => by
    rw [List.zip_cons_cons]
    simp only [mtA, mtL]
    congr 1
    funext τ
    exact mtA_zip ps qs τ
mutual
def fit : U → U → Option As
  | .name x, g => some [(x, g)]
  | .made w ps, .made w' qs => if w = w' ∧ ps.length = qs.length then fitA ps qs else none
  | _, _ => none
def fitA : List U → List U → Option As
  | p :: ps, q :: qs => (fit p q).bind fun l => (fitA ps qs).map (l ++ ·)
  | _, _ => some []
end
noncomputable def addL : As → As → Option As
  | [], σ => some σ
  | q :: r, σ => (add q.1 q.2 σ).bind (addL r)
theorem addL_app : ∀ (a b σ : As), addL (a ++ b) σ = (addL a σ).bind (addL b)
  | [], b, σ => rfl
  | q :: r, b, σ => by
    simp only [List.cons_append, addL, Option.bind_assoc]
    congr 1
    funext τ
    exact addL_app r b τ
mutual
theorem mt_fit : ∀ (p g : U) (σ : As), mt p g σ = (fit p g).bind fun l => addL l σ
  | .name x, g, σ => by
    simp only [mt, fit, Option.bind_some, addL]
    cases add x g σ <;> rfl
  | .skip, g, σ => by cases g <;> simp [mt, fit]
  | .made w ps, .name _, σ => by simp [mt, fit]
  | .made w ps, .skip, σ => by simp [mt, fit]
  | .made w ps, .made w' qs, σ => by
    simp only [mt, fit]
    by_cases h : w = w' ∧ ps.length = qs.length
    · rw [if_pos h, if_pos h]; exact mtA_fit ps qs σ
    · rw [if_neg h, if_neg h]; rfl
theorem mtA_fit : ∀ (ps qs : List U) (σ : As), mtA ps qs σ = (fitA ps qs).bind fun l => addL l σ
  | [], _, σ => by simp [mtA, fitA, addL]
  | _ :: _, [], σ => by simp [mtA, fitA, addL]
  | p :: ps, q :: qs, σ => by
    simp only [mtA, fitA]
    rw [mt_fit p q σ]
    cases hf : fit p q with
    | none => rfl
    | some l =>
      simp only [Option.bind_some]
      cases hA : fitA ps qs with
      | none =>
        simp only [Option.map_none, Option.bind_none]
        cases addL l σ with
        | none => rfl
        | some τ => rw [Option.bind_some, mtA_fit ps qs τ, hA]; rfl
      | some l2 =>
        simp only [Option.map_some, Option.bind_some]
        rw [addL_app]
        congr 1
        funext τ
        rw [mtA_fit ps qs τ, hA]; rfl
end
/-! what a chain keeps -/
theorem lk_mem {σ : As} {x : Str} {g : U} (h : lk σ x = some g) : (x, g) ∈ σ := by
  induction σ with
  | nil => cases h
  | cons p r ih =>
    unfold lk at h
    by_cases e : p.1 = x
    · rw [if_pos e] at h; cases h; rw [← e]; simp
    · rw [if_neg e] at h; exact List.mem_cons_of_mem _ (ih h)
theorem lk_none {σ : As} {x : Str} (h : x ∉ σ.map Prod.fst) : lk σ x = none := by
  induction σ with
  | nil => rfl
  | cons p r ih =>
    rw [List.map_cons, List.mem_cons, not_or] at h
    unfold lk
    rw [if_neg (fun e => h.1 e.symm)]
    exact ih h.2
theorem lk_some {σ : As} {x : Str} (h : x ∈ σ.map Prod.fst) : ∃ g, lk σ x = some g := by
  induction σ with
  | nil => simp at h
  | cons p r ih =>
    unfold lk
    by_cases e : p.1 = x
    · rw [if_pos e]; exact ⟨_, rfl⟩
    · rw [if_neg e]
      rw [List.map_cons, List.mem_cons] at h
      exact ih (h.resolve_left fun z => e z.symm)
theorem lk_app {σ : As} {x : Str} {g : U} (h : lk σ x = none) : lk (σ ++ [(x, g)]) x = some g := by
  induction σ with
  | nil => show (if x = x then some g else none) = _; rw [if_pos rfl]
  | cons p r ih =>
    unfold lk at h
    by_cases e : p.1 = x
    · rw [if_pos e] at h; cases h
    · rw [if_neg e] at h
      show (if p.1 = x then some p.2 else lk (r ++ [(x, g)]) x) = _
      rw [if_neg e]; exact ih h
/-- plain things, patterns -/
def Pl : Nat → U → Prop
  | n + 1, .made w us => okS w ∧ us.length ≤ 3 ∧ ∀ u ∈ us, Pl n u
  | _, _ => False
def Pt : Nat → U → Prop
  | _ + 1, .name x => okS x ∧ x.length ≤ 1000
  | n + 1, .made w us => okS w ∧ us.length ≤ 3 ∧ ∀ u ∈ us, Pt n u
  | _, _ => False
theorem Pl.ok : ∀ {n : Nat} {u : U}, Pl n u → U.ok n u
  | 0, .made _ _, h => h.elim
  | 0, .name _, h => h.elim
  | 0, .skip, h => h.elim
  | n + 1, .name _, h => h.elim
  | n + 1, .skip, h => h.elim
  | n + 1, .made w us, h => ⟨h.1, h.2.1, fun u hu => (h.2.2 u hu).ok⟩
theorem Pl.mono : ∀ {n m : Nat} {u : U}, n ≤ m → Pl n u → Pl m u
  | 0, _, .made _ _, _, h => h.elim
  | 0, _, .name _, _, h => h.elim
  | 0, _, .skip, _, h => h.elim
  | n + 1, 0, _, hn, _ => by omega
  | n + 1, m + 1, .name _, _, h => h.elim
  | n + 1, m + 1, .skip, _, h => h.elim
  | n + 1, m + 1, .made w us, hn, h => ⟨h.1, h.2.1, fun u hu => (h.2.2 u hu).mono (by omega)⟩
theorem Ty.pl {ks : List Kd} (hks : KsOk ks) : ∀ {n : Nat} {k : Str} {u : U}, Ty ks n k u → Pl n u
  | 0, _, .made _ _, h => h.elim
  | 0, _, .name _, h => h.elim
  | 0, _, .skip, h => h.elim
  | n + 1, k, .name _, h => h.elim
  | n + 1, k, .skip, h => h.elim
  | n + 1, k, .made w us, ⟨m, a, b, c, d⟩ => by
    obtain ⟨_, _, qok, _⟩ := msOf_ok hks.2.2 k
    obtain ⟨o1, o2, o3⟩ := qok m a
    refine ⟨b ▸ o1, by omega, fun u hu => ?_⟩
    obtain ⟨i, hi⟩ := List.mem_iff_getElem?.mp hu
    obtain ⟨p, hp⟩ := get_of_len c hi
    exact (d i p u hp hi).pl hks
theorem TyV.pt {ks : List Kd} (hks : KsOk ks) {cs : List Str} (hc : cs.length ≤ 100) : ∀ {n : Nat} {k : Str} {u : U}, TyV ks cs n k u → Pt n u
  | 0, _, .made _ _, h => h.elim
  | 0, _, .name _, h => h.elim
  | 0, _, .skip, h => h.elim
  | n + 1, k, .name x, ⟨i, e, hi⟩ => by
    have := (List.getElem?_eq_some_iff.mp hi).1
    rw [e]
    exact ⟨nmS_ok (by omega), nmS_len (by omega)⟩
  | n + 1, k, .skip, h => h.elim
  | n + 1, k, .made w us, ⟨m, a, b, c, d⟩ => by
    obtain ⟨_, _, qok, _⟩ := msOf_ok hks.2.2 k
    obtain ⟨o1, o2, o3⟩ := qok m a
    refine ⟨b ▸ o1, by omega, fun u hu => ?_⟩
    obtain ⟨i, hi⟩ := List.mem_iff_getElem?.mp hu
    obtain ⟨p, hp⟩ := get_of_len c hi
    exact (d i p u hp hi).pt hks hc
def SOk (σ : As) : Prop := ∀ q ∈ σ, Pl 12 q.2 ∧ q.1.length ≤ 1000
theorem add_ok {σ σ' : As} {x : Str} {g : U} (h : SOk σ) (hg : Pl 12 g) (hx : x.length ≤ 1000) (e : add x g σ = some σ') : SOk σ' ∧ σ'.length ≤ σ.length + 1 := by
  unfold add at e
  split at e
  · cases e
    refine ⟨fun q hq => ?_, by simp⟩
    rcases List.mem_append.mp hq with hq | hq
    · exact h q hq
    · rw [List.mem_singleton.mp hq]; exact ⟨hg, hx⟩
  · split at e
    · cases e; exact ⟨h, by omega⟩
    · cases e
mutual
theorem mt_ok : ∀ {k e : Nat} {p g : U} {σ σ' : As}, Pt k p → Pl e g → e ≤ 12 → SOk σ → mt p g σ = some σ' → SOk σ' ∧ σ'.length ≤ σ.length + p.sz
  | 0, _, .made _ _, _, _, _, h, _, _, _, _ => h.elim
  | 0, _, .name _, _, _, _, h, _, _, _, _ => h.elim
  | 0, _, .skip, _, _, _, h, _, _, _, _ => h.elim
  | k + 1, e, .skip, _, _, _, h, _, _, _, _ => h.elim
  | k + 1, e, .name x, g, σ, σ', h, hg, he, hs, hm => by
    simp only [mt] at hm
    simp only [U.sz]
    exact add_ok hs (hg.mono he) h.2 hm
  | k + 1, 0, .made w ps, .made _ _, σ, σ', h, hg, he, hs, hm => hg.elim
  | k + 1, e, .made w ps, .name _, σ, σ', h, hg, he, hs, hm => by simp [mt] at hm
  | k + 1, e, .made w ps, .skip, σ, σ', h, hg, he, hs, hm => by simp [mt] at hm
  | k + 1, e + 1, .made w ps, .made w' qs, σ, σ', h, hg, he, hs, hm => by
    simp only [mt] at hm
    split at hm
    · obtain ⟨a, b⟩ := mtA_ok (fun p hp => h.2.2 p hp) (fun q hq => hg.2.2 q hq) (by omega) hs hm
      refine ⟨a, ?_⟩
      simp only [U.sz]; omega
    · cases hm
theorem mtA_ok : ∀ {k e : Nat} {ps qs : List U} {σ σ' : As}, (∀ p ∈ ps, Pt k p) → (∀ q ∈ qs, Pl e q) → e ≤ 12 → SOk σ → mtA ps qs σ = some σ' → SOk σ' ∧ σ'.length ≤ σ.length + U.szA ps
  | k, e, [], qs, σ, σ', _, _, _, hs, hm => by simp [mtA] at hm; subst hm; exact ⟨hs, by simp [U.szA]⟩
  | k, e, p :: ps, [], σ, σ', _, _, _, hs, hm => by simp [mtA] at hm; subst hm; exact ⟨hs, by omega⟩
  | k, e, p :: ps, q :: qs, σ, σ', hp, hq, he, hs, hm => by
    simp only [mtA] at hm
    obtain ⟨τ, e1, e2⟩ := Option.bind_eq_some_iff.mp hm
    obtain ⟨a, b⟩ := mt_ok (hp p (by simp)) (hq q (by simp)) he hs e1
    obtain ⟨c, d⟩ := mtA_ok (fun p hp' => hp p (by simp [hp'])) (fun q hq' => hq q (by simp [hq'])) he a e2
    refine ⟨c, ?_⟩
    simp only [U.szA]; omega
end
/-! the order of the names -/
def Ns (c : Nat) (σ : As) : Prop := σ.map Prod.fst = (List.range c).map nmS
theorem Ns.in {c i : Nat} {σ : As} (h : Ns c σ) (hi : i < c) : ∃ g, lk σ (nmS i) = some g := lk_some (by rw [h]; exact List.mem_map.mpr ⟨i, List.mem_range.mpr hi, rfl⟩)
theorem Ns.out {c : Nat} {σ : As} (h : Ns c σ) (hc : c < 120) : lk σ (nmS c) = none := lk_none (by
  rw [h]
  intro m
  obtain ⟨i, hi, e⟩ := List.mem_map.mp m
  have := List.mem_range.mp hi
  have := nmS_inj (by omega) hc e
  omega)
theorem Ns.snoc {c : Nat} {σ : As} {g : U} (h : Ns c σ) : Ns (c + 1) (σ ++ [(nmS c, g)]) := by
  unfold Ns at *
  rw [List.map_append, h, List.range_succ, List.map_append]
  rfl
theorem Ns.old {c i : Nat} {σ σ' : As} {g : U} (h : Ns c σ) (hi : i < c) (e : add (nmS i) g σ = some σ') : σ' = σ := by
  obtain ⟨g', hg⟩ := h.in hi
  unfold add at e
  rw [hg] at e
  dsimp only at e
  split at e
  · cases e; rfl
  · cases e
mutual
theorem Op.ns {ks : List Kd} : ∀ {n : Nat} {k : Str} {cs cs' : List Str} {p g : U} {σ σ' : As}, Op ks n k cs p cs' → cs'.length ≤ 100 → Ns cs.length σ → mt p g σ = some σ' → Ns cs'.length σ'
  | 0, _, _, _, .made _ _, _, _, _, h, _, _, _ => h.elim
  | 0, _, _, _, .name _, _, _, _, h, _, _, _ => h.elim
  | 0, _, _, _, .skip, _, _, _, h, _, _, _ => h.elim
  | n + 1, k, cs, cs', .skip, _, _, _, h, _, _, _ => h.elim
  | n + 1, k, cs, cs', .name x, g, σ, σ', h, hc, hN, hm => by
    simp only [mt] at hm
    rcases h with ⟨i, rfl, hi, rfl⟩ | ⟨rfl, rfl⟩
    · rw [hN.old (List.getElem?_eq_some_iff.mp hi).1 hm]; exact hN
    · rw [List.length_append, List.length_singleton] at hc ⊢
      unfold add at hm
      rw [hN.out (by omega)] at hm
      cases hm
      exact hN.snoc
  | n + 1, k, cs, cs', .made w ps, .name _, σ, σ', h, hc, hN, hm => by simp [mt] at hm
  | n + 1, k, cs, cs', .made w ps, .skip, σ, σ', h, hc, hN, hm => by simp [mt] at hm
  | n + 1, k, cs, cs', .made w ps, .made w' qs, σ, σ', ⟨m, a, b, h⟩, hc, hN, hm => by
    simp only [mt] at hm
    split at hm
    · rename_i hq
      exact OpL.ns h hq.2 hc hN hm
    · cases hm
termination_by n => (n, 0)
theorem OpL.ns {ks : List Kd} : ∀ {n : Nat} {ms : List Str} {cs cs' : List Str} {ps qs : List U} {σ σ' : As}, OpL (Op ks n) ms cs ps cs' → ps.length = qs.length → cs'.length ≤ 100 → Ns cs.length σ → mtA ps qs σ = some σ' → Ns cs'.length σ'
  | n, [], cs, cs', [], qs, σ, σ', h, hl, hc, hN, hm => by
    simp [mtA] at hm
    subst hm
    have h : cs' = cs := h
    rw [h]; exact hN
  | n, m :: ms, cs, cs', p :: ps, q :: qs, σ, σ', ⟨c1, h1, h2⟩, hl, hc, hN, hm => by
    simp only [mtA] at hm
    obtain ⟨τ, e1, e2⟩ := Option.bind_eq_some_iff.mp hm
    obtain ⟨ds, rfl⟩ := h2.grow
    rw [List.length_append] at hc
    exact OpL.ns h2 (by simpa using hl) (by rw [List.length_append]; exact hc) (Op.ns h1 (by omega) hN e1) e2
  | n, m :: ms, cs, cs', p :: ps, [], σ, σ', h, hl, hc, hN, hm => by simp at hl
  | n, [], cs, cs', _ :: _, qs, σ, σ', h, hl, hc, hN, hm => h.elim
  | n, _ :: _, cs, cs', [], qs, σ, σ', h, hl, hc, hN, hm => h.elim
termination_by n ms => (n, ms.length + 1)
end
mutual
theorem TyV.ns {ks : List Kd} {cs : List Str} : ∀ {n : Nat} {k : Str} {p g : U} {σ σ' : As}, TyV ks cs n k p → Ns cs.length σ → mt p g σ = some σ' → σ' = σ
  | 0, _, .made _ _, _, _, _, h, _, _ => h.elim
  | 0, _, .name _, _, _, _, h, _, _ => h.elim
  | 0, _, .skip, _, _, _, h, _, _ => h.elim
  | n + 1, k, .skip, _, _, _, h, _, _ => h.elim
  | n + 1, k, .name x, g, σ, σ', ⟨i, e, hi⟩, hN, hm => by
    rw [e] at hm
    simp only [mt] at hm
    exact hN.old (List.getElem?_eq_some_iff.mp hi).1 hm
  | n + 1, k, .made w ps, .name _, σ, σ', h, hN, hm => by simp [mt] at hm
  | n + 1, k, .made w ps, .skip, σ, σ', h, hN, hm => by simp [mt] at hm
  | n + 1, k, .made w ps, .made w' qs, σ, σ', ⟨m, a, b, c, d⟩, hN, hm => by
    simp only [mt] at hm
    split at hm
    · exact TyVA.ns (fun p hp => by
        obtain ⟨i, hi⟩ := List.mem_iff_getElem?.mp hp
        obtain ⟨q, hq⟩ := get_of_len c hi
        exact ⟨q, d i q p hq hi⟩) hN hm
    · cases hm
termination_by n => (n, 0)
theorem TyVA.ns {ks : List Kd} {cs : List Str} : ∀ {n : Nat} {ps qs : List U} {σ σ' : As}, (∀ p ∈ ps, ∃ k, TyV ks cs n k p) → Ns cs.length σ → mtA ps qs σ = some σ' → σ' = σ
  | n, [], qs, σ, σ', h, hN, hm => by simp [mtA] at hm; exact hm.symm
  | n, p :: ps, [], σ, σ', h, hN, hm => by simp [mtA] at hm; exact hm.symm
  | n, p :: ps, q :: qs, σ, σ', h, hN, hm => by
    simp only [mtA] at hm
    obtain ⟨τ, e1, e2⟩ := Option.bind_eq_some_iff.mp hm
    obtain ⟨k, hk⟩ := h p (by simp)
    obtain rfl := TyV.ns hk hN e1
    exact TyVA.ns (fun p hp => h p (by simp [hp])) hN e2
termination_by n ps => (n, ps.length + 1)
end
end Sh


set_option Elab.async false
set_option linter.all false
set_option maxRecDepth 100000
namespace Sh
open PySem L2 Nf
def F_match : Nat → List D → M D
  | 0 => fun _ _ => none
  | k + 1 => fnA 3 5 (b_match (F_match k))
theorem notinK (x : Str) (σ : As) : fNotInK (.str x) (dkD σ) = some (.bl (!(lk σ x).isSome)) := by
  show ((keyD (.str x)).map fun k => (dval (σ.map fun p => Sum.inr p.1) (σ.map fun p => p.2.d) k).isSome).map (fun b => D.bl (!b)) = _
  show some (D.bl (!(dval (σ.map fun p => Sum.inr p.1) (σ.map fun p => p.2.d) (.inr x)).isSome)) = _
  rw [dval_dk]
  cases lk σ x <;> rfl
theorem getK {x : Str} {σ : As} {g : U} (h : lk σ x = some g) : fDG (dkD σ) (.str x) = some g.d := by
  show (keyD (.str x)).bind (fun k => dval (σ.map fun p => Sum.inr p.1) (σ.map fun p => p.2.d) k) = _
  show dval (σ.map fun p => Sum.inr p.1) (σ.map fun p => p.2.d) (.inr x) = _
  rw [dval_dk, h]; rfl
theorem mt_name (x : Str) (g : U) (σ : As) : mt (.name x) g σ = add x g σ := by simp only [mt]
theorem mt_made (w w' : Str) (ps qs : List U) (σ : As) : mt (.made w ps) (.made w' qs) σ = if w = w' ∧ ps.length = qs.length then mtL (ps.zip qs) σ else none := by
  simp only [mt, mtA_zip]
/-- what a call of the law's match does -/
def MtF (F : List D → M D) (p g : U) : Prop := ∀ (σ : As) (n : Nat) (ms : List D), SOk σ → σ.length + p.sz ≤ 1000 →
  (∀ σ', mt p g σ = some σ' → F [p.d, g.d, .shr ms.length] (n, ms ++ [dkD σ]) = some (.bl true, n, ms ++ [dkD σ'])) ∧ (mt p g σ = none → ∃ c, F [p.d, g.d, .shr ms.length] (n, ms ++ [dkD σ]) = some (.bl false, n, ms ++ [c]))
theorem shL {ms : List D} {c : D} {n : Nat} : shC (.shr ms.length) (n, ms ++ [c]) = some (c, n, ms ++ [c]) := get_last
theorem mloop {K : Nat} {X G : D} {n : Nat} {ms : List D} : ∀ (st : List (U × U)) (σ : As) (x3 x4 : Option D), (∀ q ∈ st, MtF (F_match K) q.1 q.2) → (∀ q ∈ st, ∃ k e, Pt k q.1 ∧ Pl e q.2 ∧ e ≤ 12) → SOk σ → σ.length + ssz st ≤ 1000 →
    (∀ σ', mtL st σ = some σ' → ∃ y3 y4, fM (gT (gsC (gN 3) (gsC (gN 4) gsN))) (l1_match (F_match K)) (st.map prD) [some X, some G, some (.shr ms.length), x3, x4] (n, ms ++ [dkD σ]) = some (.next [some X, some G, some (.shr ms.length), y3, y4], n, ms ++ [dkD σ'])) ∧
    (mtL st σ = none → ∃ c, fM (gT (gsC (gN 3) (gsC (gN 4) gsN))) (l1_match (F_match K)) (st.map prD) [some X, some G, some (.shr ms.length), x3, x4] (n, ms ++ [dkD σ]) = some (.ret (.bl false), n, ms ++ [c]))
  | [], σ, x3, x4, _, _, _, _ => ⟨fun σ' h => by cases h; exact ⟨x3, x4, rfl⟩, fun h => nomatch h⟩
  | (p, g) :: r, σ, x3, x4, hF, hP, hs, hl => by
    rw [ssz_cons] at hl
    dsimp only at hl
    have hpg := hF (p, g) (by simp) σ n ms hs (by dsimp only; omega)
    dsimp only at hpg
    have gg : (gT (gsC (gN 3) (gsC (gN 4) gsN))) (prD (p, g)) [some X, some G, some (.shr ms.length), x3, x4] = some [some X, some G, some (.shr ms.length), some p.d, some g.d] := rfl
    have C : ∀ (b : Bool) (m : Sx), F_match K [p.d, g.d, .shr ms.length] (n, ms ++ [dkD σ]) = some (.bl b, m) → tNt (trB (eCall (F_match K) (aCons (eVar 3) (aCons (eVar 4) (aCons (eVar 2) aNil))))) [some X, some G, some (.shr ms.length), some p.d, some g.d] (n, ms ++ [dkD σ]) = some (!b, m) := fun b m h =>
      tNt_e (trB_e (eCall_e (aCons_e (eVar_e rfl) (aCons_e (eVar_e rfl) (aCons_e (eVar_e rfl) aNil_e))) h) rfl)
    obtain ⟨k, e, hpt, hpl, he⟩ := hP (p, g) (by simp)
    cases hm : mt p g σ with
    | none =>
      obtain ⟨c, hc⟩ := hpg.2 hm
      have e0 : mtL ((p, g) :: r) σ = none := by simp only [mtL, hm, Option.bind_none]
      refine ⟨fun σ' h => (by rw [e0] at h; cases h), fun _ => ⟨c, ?_⟩⟩
      rw [List.map_cons]
      exact fM_ret gg ((sIf_t (C false _ hc)).trans (sRet_r rfl))
    | some τ =>
      have e0 : mtL ((p, g) :: r) σ = mtL r τ := by simp only [mtL, hm, Option.bind_some]
      obtain ⟨hs2, hl2⟩ := mt_ok hpt hpl he hs hm
      obtain ⟨i1, i2⟩ := mloop (K := K) (X := X) (G := G) (n := n) (ms := ms) r τ (some p.d) (some g.d) (fun q hq => hF q (by simp [hq])) (fun q hq => hP q (by simp [hq])) hs2 (by dsimp only at hl2; omega)
      have step : ∀ z, fM (gT (gsC (gN 3) (gsC (gN 4) gsN))) (l1_match (F_match K)) (r.map prD) [some X, some G, some (.shr ms.length), some p.d, some g.d] (n, ms ++ [dkD τ]) = z → fM (gT (gsC (gN 3) (gsC (gN 4) gsN))) (l1_match (F_match K)) (((p, g) :: r).map prD) [some X, some G, some (.shr ms.length), x3, x4] (n, ms ++ [dkD σ]) = z := fun z hz => by
        rw [List.map_cons]
        exact (fM_next gg ((sIf_f (C true _ (hpg.1 τ hm))).trans rfl)).trans hz
      rw [e0]
      refine ⟨fun σ' h => ?_, fun h => ?_⟩
      · obtain ⟨y3, y4, q⟩ := i1 σ' h
        exact ⟨y3, y4, step _ q⟩
      · obtain ⟨c, q⟩ := i2 h
        exact ⟨c, step _ q⟩
theorem match_f : ∀ (K k e : Nat) (p g : U), Pt k p → Pl e g → e ≤ 12 → k ≤ K → MtF (F_match K) p g
  | 0, 0, _, .made _ _, _, h, _, _, _ => h.elim
  | 0, 0, _, .name _, _, h, _, _, _ => h.elim
  | 0, 0, _, .skip, _, h, _, _, _ => h.elim
  | 0, k + 1, _, _, _, _, _, _, hk => by omega
  | K + 1, 0, _, .made _ _, _, h, _, _, _ => h.elim
  | K + 1, 0, _, .name _, _, h, _, _, _ => h.elim
  | K + 1, 0, _, .skip, _, h, _, _, _ => h.elim
  | K + 1, k + 1, _, .skip, _, h, _, _, _ => h.elim
  | K + 1, k + 1, e, .name x, g, h, hg, he, hk => by
    intro σ n ms hs hl
    have gok := hg.ok
    have T : trB (e2 fEq (e2 fDG (eVar 0) (eC (.int 0))) (eC (.str ("name" : Str)))) [some (U.name x).d, some g.d, some (.shr ms.length), none, none] (n, ms ++ [dkD σ]) = some (true, n, ms ++ [dkD σ]) := tEq_t (x := "name") (e2_e (eVar_e rfl) rfl (U.ixG0 _)) rfl
    have X : ∀ m : Sx, e2 fDG (eVar 0) (eC (.int 1)) [some (U.name x).d, some g.d, some (.shr ms.length), none, none] m = some (.str x, m) := fun m => e2_e (eVar_e rfl) rfl (ixG_name1 x)
    have N : trB (e2R fNotInK (e2 fDG (eVar 0) (eC (.int 1))) (eVar 2)) [some (U.name x).d, some g.d, some (.shr ms.length), none, none] (n, ms ++ [dkD σ]) = some (!(lk σ x).isSome, n, ms ++ [dkD σ]) := trB_e (e2R_e (X _) (eVar_e rfl) shL (notinK x σ)) rfl
    have go : ∀ z, bSeq (sIf (trB (e2R fNotInK (e2 fDG (eVar 0) (eC (.int 1))) (eVar 2))) (sPutS (eVar 2) (e2 fDG (eVar 0) (eC (.int 1))) (eVar 1)) bNil) (sRet (e2 fEq (e2S fDG (eVar 2) (e2 fDG (eVar 0) (eC (.int 1)))) (eVar 1))) [some (U.name x).d, some g.d, some (.shr ms.length), none, none] (n, ms ++ [dkD σ]) = some (.ret z.1, z.2) →
        F_match (K + 1) [(U.name x).d, g.d, .shr ms.length] (n, ms ++ [dkD σ]) = some z := fun z hz => fn_ret rfl (bSeq_r ((sIf_t T).trans hz))
    rw [mt_name]
    unfold add
    cases hlk : lk σ x with
    | none =>
      dsimp only
      refine ⟨fun σ' e => ?_, fun e => nomatch e⟩
      cases e
      rw [hlk] at N
      have P := sPutS_n (b := eVar 1) (a := eVar 2) (t := e2 fDG (eVar 0) (eC (.int 1))) (ρ := [some (U.name x).d, some g.d, some (.shr ms.length), none, none]) (n := (n, ms ++ [dkD σ])) (eVar_e rfl) (eVar_e rfl) (X _) (c := dkD σ) (by show (ms ++ [dkD σ])[ms.length]? = _; rw [List.getElem?_append_right (Nat.le_refl _), Nat.sub_self]; rfl)
        (c' := dkD (σ ++ [(x, g)])) (by
          rw [← put_new hlk]
          exact put_dk (by rw [List.length_map]; simp only [U.sz] at hl; omega) rfl) (dk_flat _)
      rw [show ((n, ms ++ [dkD σ]).2.set ms.length (dkD (σ ++ [(x, g)]))) = ms ++ [dkD (σ ++ [(x, g)])] from set_last] at P
      refine go (_, _) ((bSeq_n ((sIf_t N).trans P)).trans (sRet_r (e2_e (e2S_e (eVar_e rfl) (X _) shL (getK (lk_app hlk))) (eVar_e rfl) (U.fEq_t gok (by omega)))))
    | some g' =>
      dsimp only
      rw [hlk] at N
      have g'ok := (hs _ (lk_mem hlk)).1.ok
      have go2 : ∀ b, fEq g'.d g.d = some (.bl b) → F_match (K + 1) [(U.name x).d, g.d, .shr ms.length] (n, ms ++ [dkD σ]) = some (.bl b, n, ms ++ [dkD σ]) := fun b hb =>
        go (_, _) ((bSeq_n ((sIf_f N).trans rfl)).trans (sRet_r (e2_e (e2S_e (eVar_e rfl) (X _) shL (getK hlk)) (eVar_e rfl) hb)))
      by_cases hgg : g' = g
      · rw [if_pos hgg]
        refine ⟨fun σ' e => ?_, fun e => nomatch e⟩
        cases e
        subst hgg
        exact go2 true (U.fEq_t gok (by omega))
      · rw [if_neg hgg]
        exact ⟨fun σ' e => (nomatch e), fun _ => ⟨_, go2 false (U.fEq_f g'ok (U.ok_mono he gok) (by decide) hgg)⟩⟩
  | K + 1, k + 1, 0, .made w ps, .made _ _, h, hg, he, hk => hg.elim
  | K + 1, k + 1, 0, .made w ps, .name _, h, hg, he, hk => hg.elim
  | K + 1, k + 1, 0, .made w ps, .skip, h, hg, he, hk => hg.elim
  | K + 1, k + 1, e + 1, .made w ps, .name _, h, hg, he, hk => hg.elim
  | K + 1, k + 1, e + 1, .made w ps, .skip, h, hg, he, hk => hg.elim
  | K + 1, k + 1, e + 1, .made w ps, .made w' qs, h, hg, he, hk => by
    intro σ n ms hs hl
    have T : trB (e2 fEq (e2 fDG (eVar 0) (eC (.int 0))) (eC (.str ("name" : Str)))) [some (U.made w ps).d, some (U.made w' qs).d, some (.shr ms.length), none, none] (n, ms ++ [dkD σ]) = some (false, n, ms ++ [dkD σ]) := tEq_f (x := "made") (e2_e (eVar_e rfl) rfl (U.ixG0 _)) rfl
    have W : trB (e2 fNe (e2 fDG (eVar 0) (eC (.int 1))) (e2 fDG (eVar 1) (eC (.int 1)))) [some (U.made w ps).d, some (U.made w' qs).d, some (.shr ms.length), none, none] (n, ms ++ [dkD σ]) = some (!decide (w = w'), n, ms ++ [dkD σ]) := trB_e (e2_e (e2_e (eVar_e rfl) rfl (ixG_made1 w ps)) (e2_e (eVar_e rfl) rfl (ixG_made1 w' qs)) ne_str) rfl
    have P0 : e2 fDG (eVar 0) (eC (.int 2)) [some (U.made w ps).d, some (U.made w' qs).d, some (.shr ms.length), none, none] (n, ms ++ [dkD σ]) = some (.tup (ps.map U.d), n, ms ++ [dkD σ]) := e2_e (eVar_e rfl) rfl (ixG_made2 w ps)
    have P1 : e2 fDG (eVar 1) (eC (.int 2)) [some (U.made w ps).d, some (U.made w' qs).d, some (.shr ms.length), none, none] (n, ms ++ [dkD σ]) = some (.tup (qs.map U.d), n, ms ++ [dkD σ]) := e2_e (eVar_e rfl) rfl (ixG_made2 w' qs)
    have L : trB (e2 fNe (eF (f1 fLen) (aCons (e2 fDG (eVar 0) (eC (.int 2))) aNil)) (eF (f1 fLen) (aCons (e2 fDG (eVar 1) (eC (.int 2))) aNil))) [some (U.made w ps).d, some (U.made w' qs).d, some (.shr ms.length), none, none] (n, ms ++ [dkD σ]) = some (!decide ((ps.length : Int) = (qs.length : Int)), n, ms ++ [dkD σ]) :=
      trB_e (e2_e (eF_e (aCons_e P0 aNil_e) rfl) (eF_e (aCons_e P1 aNil_e) rfl) (z := .bl (!decide ((ps.length : Int) = (qs.length : Int)))) (by show some (D.bl (!decide ((((ps.map U.d).length : Nat) : Int) = (((qs.map U.d).length : Nat) : Int)))) = _; rw [List.length_map, List.length_map])) rfl
    rw [mt_made]
    by_cases hc : w = w' ∧ ps.length = qs.length
    · rw [if_pos hc]
      rw [decide_eq_true hc.1] at W
      rw [decide_eq_true (by omega)] at L
      have hz := ssz_zip ps qs
      simp only [U.sz] at hl
      obtain ⟨j1, j2⟩ := mloop (K := K) (X := (U.made w ps).d) (G := (U.made w' qs).d) (n := n) (ms := ms) (ps.zip qs) σ none none (fun q hq => by
          obtain ⟨a, b⟩ := List.of_mem_zip hq
          exact match_f K k e q.1 q.2 (h.2.2 _ a) (hg.2.2 _ b) (by omega) (by omega)) (fun q hq => by
          obtain ⟨a, b⟩ := List.of_mem_zip hq
          exact ⟨k, e, h.2.2 _ a, hg.2.2 _ b, by omega⟩) hs (by omega)
      have go : ∀ z, bSeq (sFor (i2 fZip (e2 fDG (eVar 0) (eC (.int 2))) (e2 fDG (eVar 1) (eC (.int 2)))) (gT (gsC (gN 3) (gsC (gN 4) gsN))) (l1_match (F_match K))) (sRet (eC (.bl true))) [some (U.made w ps).d, some (U.made w' qs).d, some (.shr ms.length), none, none] (n, ms ++ [dkD σ]) = some (.ret z.1, z.2) →
          F_match (K + 1) [(U.made w ps).d, (U.made w' qs).d, .shr ms.length] (n, ms ++ [dkD σ]) = some z := fun z hz => fn_ret rfl ((bSeq_n ((sIf_f T).trans rfl)).trans ((bSeq_n ((sIf_f ((tOr_f W).trans L)).trans rfl)).trans hz))
      have F0 : ∀ r, fM (gT (gsC (gN 3) (gsC (gN 4) gsN))) (l1_match (F_match K)) ((ps.zip qs).map prD) [some (U.made w ps).d, some (U.made w' qs).d, some (.shr ms.length), none, none] (n, ms ++ [dkD σ]) = r →
          sFor (i2 fZip (e2 fDG (eVar 0) (eC (.int 2))) (e2 fDG (eVar 1) (eC (.int 2)))) (gT (gsC (gN 3) (gsC (gN 4) gsN))) (l1_match (F_match K)) [some (U.made w ps).d, some (U.made w' qs).d, some (.shr ms.length), none, none] (n, ms ++ [dkD σ]) = r := fun r hr =>
        (sFor_i (i2_e P0 P1 (by rw [zip_tup (by rw [List.length_map]; have := h.2.1; omega), prs_map]))).trans hr
      refine ⟨fun σ' e => ?_, fun e => ?_⟩
      · obtain ⟨y3, y4, q⟩ := j1 σ' e
        exact go (_, _) ((bSeq_n (F0 _ q)).trans (sRet_r rfl))
      · obtain ⟨c, q⟩ := j2 e
        exact ⟨c, go (_, _) (bSeq_r (F0 _ q))⟩
    · rw [if_neg hc]
      refine ⟨fun σ' e => (nomatch e), fun _ => ⟨dkD σ, fn_ret rfl ((bSeq_n ((sIf_f T).trans rfl)).trans (bSeq_r ((sIf_t ?_).trans (sRet_r rfl))))⟩⟩
      by_cases hw : w = w'
      · rw [decide_eq_true hw] at W
        rw [decide_eq_false (fun z => hc ⟨hw, by omega⟩)] at L
        exact (tOr_f W).trans L
      · rw [decide_eq_false hw] at W
        exact tOr_t W
end Sh


set_option Elab.async false
set_option linter.all false
set_option maxRecDepth 100000
namespace Sh
open PySem L2 Nf
abbrev Tr3 := Str × U × U
def tL (t : Tr3) : D := prU (t.1, t.2.1)
def tR (t : Tr3) : D := prU (t.1, t.2.2)
def ansD (ts : List Tr3) (av : U) : D := .tup [.tup (ts.map tL), av.d, .tup [.str "skip"], .int 0, .tup []]
theorem prs_t : ∀ ts : List Tr3, prs (ts.map tL) (ts.map tR) = ts.map fun t => .tup [tL t, tR t]
  | [] => rfl
  | t :: r => by
    show .tup [tL t, tR t] :: prs (r.map tL) (r.map tR) = _
    rw [prs_t r]; rfl
theorem ix_pr (p : Str × U) : fDG (prU p) (.int 1) = some p.2.d := rfl
def F_due : List D → M D := fnA 3 7 (b_due (F_match 12))
def Chk (ts : List Tr3) : Prop := ∀ t ∈ ts, Pt 12 t.2.1 ∧ Pl 12 t.2.2
theorem dloop {X G V : D} {n : Nat} {ms : List D} : ∀ (ts : List Tr3) (σ : As) (x4 x5 : Option D), Chk ts → SOk σ → σ.length + ssz (ts.map (·.2)) ≤ 1000 →
    (∀ σ', mtL (ts.map (·.2)) σ = some σ' → ∃ y4 y5, fM (gT (gsC (gN 4) (gsC (gN 5) gsN))) (l1_due (F_match 12)) (ts.map fun t => .tup [tL t, tR t]) [some X, some G, some V, some (.shr ms.length), x4, x5, none] (n, ms ++ [dkD σ]) = some (.next [some X, some G, some V, some (.shr ms.length), y4, y5, none], n, ms ++ [dkD σ'])) ∧
    (mtL (ts.map (·.2)) σ = none → ∃ c, fM (gT (gsC (gN 4) (gsC (gN 5) gsN))) (l1_due (F_match 12)) (ts.map fun t => .tup [tL t, tR t]) [some X, some G, some V, some (.shr ms.length), x4, x5, none] (n, ms ++ [dkD σ]) = some (.ret .non, n, ms ++ [c]))
  | [], σ, x4, x5, _, _, _ => ⟨fun σ' h => by cases h; exact ⟨x4, x5, rfl⟩, fun h => nomatch h⟩
  | t :: r, σ, x4, x5, hP, hs, hl => by
    obtain ⟨hpt, hpl⟩ := hP t (by simp)
    rw [List.map_cons, ssz_cons] at hl
    have hpg := match_f 12 12 12 t.2.1 t.2.2 hpt hpl (by decide) (by decide) σ n ms hs (by omega)
    have gg : (gT (gsC (gN 4) (gsC (gN 5) gsN))) (.tup [tL t, tR t]) [some X, some G, some V, some (.shr ms.length), x4, x5, none] = some [some X, some G, some V, some (.shr ms.length), some (tL t), some (tR t), none] := rfl
    have C : ∀ (b : Bool) (m : Sx), F_match 12 [t.2.1.d, t.2.2.d, .shr ms.length] (n, ms ++ [dkD σ]) = some (.bl b, m) → tNt (trB (eCall (F_match 12) (aCons (e2 fDG (eVar 4) (eC (.int 1))) (aCons (e2 fDG (eVar 5) (eC (.int 1))) (aCons (eVar 3) aNil))))) [some X, some G, some V, some (.shr ms.length), some (tL t), some (tR t), none] (n, ms ++ [dkD σ]) = some (!b, m) := fun b m h =>
      tNt_e (trB_e (eCall_e (aCons_e (e2_e (eVar_e rfl) rfl (ix_pr _)) (aCons_e (e2_e (eVar_e rfl) rfl (ix_pr _)) (aCons_e (eVar_e rfl) aNil_e))) h) rfl)
    rw [List.map_cons]
    cases hm : mt t.2.1 t.2.2 σ with
    | none =>
      obtain ⟨c, hc⟩ := hpg.2 hm
      have e0 : mtL (t.2 :: r.map (·.2)) σ = none := by simp only [mtL, hm, Option.bind_none]
      refine ⟨fun σ' h => (by rw [e0] at h; cases h), fun _ => ⟨c, ?_⟩⟩
      rw [List.map_cons]
      exact fM_ret gg ((sIf_t (C false _ hc)).trans (sRet_r rfl))
    | some τ =>
      have e0 : mtL (t.2 :: r.map (·.2)) σ = mtL (r.map (·.2)) τ := by simp only [mtL, hm, Option.bind_some]
      obtain ⟨hs2, hl2⟩ := mt_ok hpt hpl (by decide) hs hm
      obtain ⟨j1, j2⟩ := dloop (X := X) (G := G) (V := V) (n := n) (ms := ms) r τ (some (tL t)) (some (tR t)) (fun q hq => hP q (by simp [hq])) hs2 (by omega)
      have step : ∀ z, fM (gT (gsC (gN 4) (gsC (gN 5) gsN))) (l1_due (F_match 12)) (r.map fun t => .tup [tL t, tR t]) [some X, some G, some V, some (.shr ms.length), some (tL t), some (tR t), none] (n, ms ++ [dkD τ]) = z → fM (gT (gsC (gN 4) (gsC (gN 5) gsN))) (l1_due (F_match 12)) ((t :: r).map fun t => .tup [tL t, tR t]) [some X, some G, some V, some (.shr ms.length), x4, x5, none] (n, ms ++ [dkD σ]) = z := fun z hz => by
        rw [List.map_cons]
        exact (fM_next gg ((sIf_f (C true _ (hpg.1 τ hm))).trans rfl)).trans hz
      rw [e0]
      refine ⟨fun σ' h => ?_, fun h => ?_⟩
      · obtain ⟨y3, y4, q⟩ := j1 σ' h
        exact ⟨y3, y4, step _ q⟩
      · obtain ⟨c, q⟩ := j2 h
        exact ⟨c, step _ q⟩
theorem mtL_ok : ∀ {ts : List Tr3} {σ σ' : As}, Chk ts → SOk σ → mtL (ts.map (·.2)) σ = some σ' → SOk σ' ∧ σ'.length ≤ σ.length + ssz (ts.map (·.2))
  | [], σ, σ', _, hs, h => by cases h; exact ⟨hs, by omega⟩
  | t :: r, σ, σ', hP, hs, h => by
    rw [List.map_cons] at h ⊢
    simp only [mtL] at h
    obtain ⟨τ, e1, e2⟩ := Option.bind_eq_some_iff.mp h
    obtain ⟨hpt, hpl⟩ := hP t (by simp)
    obtain ⟨a, b⟩ := mt_ok hpt hpl (by decide) hs e1
    obtain ⟨c, d⟩ := mtL_ok (fun q hq => hP q (by simp [hq])) a e2
    rw [ssz_cons]
    exact ⟨c, by omega⟩
theorem Ns.at {c : Nat} {σ : As} (h : Ns c σ) (hc : c ≤ 100) {i : Nat} {q : Str × U} (hi : σ[i]? = some q) : q.1 = nmS i ∧ lk σ (nmS i) = some q.2 := by
  have e1 : (σ.map Prod.fst)[i]? = some q.1 := by rw [List.getElem?_map, hi]; rfl
  have hl : σ.length = c := by have := congrArg List.length h; simpa using this
  have hlt : i < c := by rw [← hl]; exact (List.getElem?_eq_some_iff.mp hi).1
  rw [h, List.getElem?_map, List.getElem?_range hlt] at e1
  have e2 : nmS i = q.1 := Option.some.inj e1
  refine ⟨e2.symm, ?_⟩
  have key : ∀ (σ : As) (k i : Nat), σ.map Prod.fst = (List.range' k σ.length).map nmS → k + σ.length ≤ 100 → σ[i]? = some q → lk σ (nmS (k + i)) = some q.2 := by
    intro σ
    induction σ with
    | nil => intro k i _ _ e; simp at e
    | cons p r ih =>
      intro k i e1 hk e
      rw [List.map_cons, List.length_cons, List.range'_succ, List.map_cons] at e1
      obtain ⟨e3, e4⟩ := List.cons.inj e1
      rw [List.length_cons] at hk
      cases i with
      | zero =>
        simp at e
        subst e
        unfold lk
        rw [if_pos (by rw [e3]; rfl)]
      | succ i =>
        have e' : r[i]? = some q := by simpa using e
        have hil := (List.getElem?_eq_some_iff.mp e').1
        unfold lk
        rw [if_neg (fun z => by
          rw [e3] at z
          have := nmS_inj (by omega) (by omega) z
          omega), show k + (i + 1) = k + 1 + i by omega]
        exact ih (k + 1) i e4 (by omega) e'
  have := key σ 0 i (by rw [h, hl, List.range_eq_range']) (by omega) hi
  rwa [Nat.zero_add] at this
theorem due_f {ts : List Tr3} {av vv : U} {n : Nat} {ms : List D} (hP : Chk ts) (ha : Pt 12 av) (hv : Pl 12 vv) (hl : ssz (ts.map (·.2)) + av.sz ≤ 1000) (h4 : ts.length ≤ 4) :
    (∀ σ c, (mtL (ts.map (·.2)) []).bind (mt av vv) = some σ → Ns c σ → c ≤ 100 → F_due [ansD ts av, .lst (ts.map tR), vv.d] (n, ms) = some (.tup (σ.map prU), n, ms ++ [dkD σ])) ∧
    ((mtL (ts.map (·.2)) []).bind (mt av vv) = none → ∃ c, F_due [ansD ts av, .lst (ts.map tR), vv.d] (n, ms) = some (.non, n, ms ++ [c])) := by
  have s0 : SOk [] := fun q hq => nomatch hq
  obtain ⟨j1, j2⟩ := dloop (X := ansD ts av) (G := .lst (ts.map tR)) (V := vv.d) (n := n) (ms := ms) ts [] none none hP s0 (by simp; omega)
  have st : ∀ z, bSeq (sFor (i2 fZipM (e2 fDG (eVar 0) (eC (.int 0))) (eVar 1)) (gT (gsC (gN 4) (gsC (gN 5) gsN))) (l1_due (F_match 12)))
      (bSeq (sIf (tNt (trB (eCall (F_match 12) (aCons (e2 fDG (eVar 0) (eC (.int 1))) (aCons (eVar 2) (aCons (eVar 3) aNil)))))) (sRet (eC .non)) bNil)
      (sRet (eF (f1 fTupD) (aCons (eLc (i1 fR1 (e1S fLenD (eVar 3))) (gN 6) tY (eTup (aCons (eF (f1 fStr) (aCons (e2 fAdd (eVar 6) (eC (.int 1))) aNil)) (aCons (e2S fDG (eVar 3) (eF (f1 fStr) (aCons (e2 fAdd (eVar 6) (eC (.int 1))) aNil))) aNil))) [6]) aNil))))
      [some (ansD ts av), some (.lst (ts.map tR)), some vv.d, some (.shr ms.length), none, none, none] (n, ms ++ [dkD []]) = some (.ret z.1, z.2) → F_due [ansD ts av, .lst (ts.map tR), vv.d] (n, ms) = some z := fun z hz =>
    fn_ret rfl ((bSeq_n (sSet_n (eShr_e (d := .dk [] []) (m := (n, ms)) rfl rfl))).trans hz)
  have F0 : ∀ r, fM (gT (gsC (gN 4) (gsC (gN 5) gsN))) (l1_due (F_match 12)) (ts.map fun t => .tup [tL t, tR t]) [some (ansD ts av), some (.lst (ts.map tR)), some vv.d, some (.shr ms.length), none, none, none] (n, ms ++ [dkD []]) = r →
      sFor (i2 fZipM (e2 fDG (eVar 0) (eC (.int 0))) (eVar 1)) (gT (gsC (gN 4) (gsC (gN 5) gsN))) (l1_due (F_match 12)) [some (ansD ts av), some (.lst (ts.map tR)), some vv.d, some (.shr ms.length), none, none, none] (n, ms ++ [dkD []]) = r := fun r hr =>
    (sFor_i (i2_e (e2_e (eVar_e rfl) rfl (z := .tup (ts.map tL)) rfl) (eVar_e rfl) (by rw [zipM_tl (by rw [List.length_map]; omega), prs_t]))).trans hr
  cases hc : mtL (ts.map (·.2)) [] with
  | none =>
    obtain ⟨c, q⟩ := j2 hc
    exact ⟨fun σ c h => (nomatch h), fun _ => ⟨c, st (_, _) (bSeq_r (F0 _ q))⟩⟩
  | some τ =>
    obtain ⟨y4, y5, q⟩ := j1 τ hc
    obtain ⟨hs2, hl2⟩ := mtL_ok hP s0 hc
    have hl2' : τ.length ≤ ssz (ts.map (·.2)) := by simpa using hl2
    have mv := match_f 12 12 12 av vv ha hv (by decide) (by decide) τ n ms hs2 (by omega)
    have C : ∀ (b : Bool) (m : Sx), F_match 12 [av.d, vv.d, .shr ms.length] (n, ms ++ [dkD τ]) = some (.bl b, m) → tNt (trB (eCall (F_match 12) (aCons (e2 fDG (eVar 0) (eC (.int 1))) (aCons (eVar 2) (aCons (eVar 3) aNil))))) [some (ansD ts av), some (.lst (ts.map tR)), some vv.d, some (.shr ms.length), y4, y5, none] (n, ms ++ [dkD τ]) = some (!b, m) := fun b m h =>
      tNt_e (trB_e (eCall_e (aCons_e (e2_e (eVar_e rfl) rfl (z := av.d) rfl) (aCons_e (eVar_e rfl) (aCons_e (eVar_e rfl) aNil_e))) h) rfl)
    show (∀ σ c, mt av vv τ = some σ → _) ∧ (mt av vv τ = none → _)
    refine ⟨fun σ c h hN hc100 => ?_, fun h => ?_⟩
    · have q2 := mv.1 σ h
      have hsl : σ.length = c := by have := congrArg List.length hN; simpa using this
      have L := lcM_map (g := gN 6) (te := eTup (aCons (eF (f1 fStr) (aCons (e2 fAdd (eVar 6) (eC (.int 1))) aNil)) (aCons (e2S fDG (eVar 3) (eF (f1 fStr) (aCons (e2 fAdd (eVar 6) (eC (.int 1))) aNil))) aNil))) (ρ := [some (ansD ts av), some (.lst (ts.map tR)), some vv.d, some (.shr ms.length), y4, y5, none]) (n := (n, ms ++ [dkD σ]))
        (f := fun (j : Nat) => D.int (0 + j)) (h := fun j => prU ((σ[j]?).getD ("", .skip))) (List.range c) fun j hj => by
          have hjc := List.mem_range.mp hj
          obtain ⟨q, hq⟩ : ∃ q, σ[j]? = some q := ⟨σ[j], List.getElem?_eq_getElem (by omega)⟩
          obtain ⟨e1, e2'⟩ := hN.at hc100 hq
          have S : eF (f1 fStr) (aCons (e2 fAdd (eVar 6) (eC (.int 1))) aNil) [some (ansD ts av), some (.lst (ts.map tR)), some vv.d, some (.shr ms.length), y4, y5, some (.int (0 + (j : Int)))] (n, ms ++ [dkD σ]) = some (.str (nmS j), n, ms ++ [dkD σ]) :=
            eF_e (aCons_e (e2_e (eVar_e rfl) rfl (z := .int ((j : Int) + 1)) (by show some (D.int (0 + (j : Int) + 1)) = _; rw [Int.zero_add])) aNil_e) (fStr_nm (by omega))
          refine ⟨_, rfl, ?_⟩
          rw [hq, Option.getD_some]
          have := eTup_e (aCons_e S (aCons_e (e2S_e (a := eVar 3) (eVar_e rfl) S shL (getK e2')) aNil_e))
          rw [← e1] at this
          exact this
      have hr : (List.range c).map (fun j => prU ((σ[j]?).getD ("", .skip))) = σ.map prU := by
        apply List.ext_getElem?
        intro i
        rw [List.getElem?_map, List.getElem?_map]
        by_cases hi : i < c
        · rw [List.getElem?_range hi]
          show some (prU ((σ[i]?).getD ("", .skip))) = Option.map prU σ[i]?
          rw [List.getElem?_eq_getElem (show i < σ.length by omega)]; rfl
        · rw [List.getElem?_eq_none (by rw [List.length_range]; omega), List.getElem?_eq_none (by omega)]; rfl
      rw [hr] at L
      refine st (_, _) ((bSeq_n (F0 _ q)).trans ((bSeq_n ((sIf_f (C true _ q2)).trans rfl)).trans (sRet_r (eF_e (aCons_e (eLc_e (i1_e (e1S_e (eVar_e rfl) shL (z := .int (c : Nat)) (by show some (D.int (((σ.map fun p => (Sum.inr p.1 : Key)).length : Nat) : Int)) = _; rw [List.length_map, hsl])) (r1_e (by omega))) ?_) aNil_e) rfl))))
      unfold rngD
      rw [show (c : Int).toNat = c by omega]
      exact L
    · obtain ⟨c, q2⟩ := mv.2 h
      exact ⟨c, st (_, _) ((bSeq_n (F0 _ q)).trans (bSeq_r ((sIf_t (C false _ q2)).trans (sRet_r rfl))))⟩
end Sh


set_option Elab.async false
set_option linter.all false
set_option maxRecDepth 100000
namespace Sh
open PySem L2 Nf
/-! the program's fitted -/
def F_fitted : List D → M D := fnA 2 7 b_fitted
abbrev fcond : Td := trB (eVar 3)
def fitL : List (U × U) → Option As
  | [] => some []
  | p :: r => (fit p.1 p.2).bind fun l => (fitL r).map (l ++ ·)
theorem fitA_zip : ∀ (ps qs : List U) (r : List (U × U)), fitL (ps.zip qs ++ r) = (fitA ps qs).bind fun l => (fitL r).map (l ++ ·)
  | [], _, r => by simp [fitA]
  | _ :: _, [], r => by simp [fitA]
  | p :: ps, q :: qs, r => by
    rw [List.zip_cons_cons, List.cons_append]
    simp only [fitL, fitA]
    rw [fitA_zip ps qs r]
    cases fit p q with
    | none => rfl
    | some l =>
      simp only [Option.bind_some]
      cases fitA ps qs with
      | none => rfl
      | some l2 =>
        simp only [Option.bind_some, Option.map_some]
        cases fitL r with
        | none => rfl
        | some l3 => simp [List.append_assoc]
theorem fbody {a b : D} {n : Sx} {acc : As} {xs : List D} {p g : U} {x4 x5 x6 : Option D} {k e : Nat} (hp : Pt k p) (hg : Pl e g) (ha : acc.length + 1 ≤ 1000000) (hx : xs.length + 3 ≤ 1000000) :
    (match p, g with
      | .name x, g => l1_fitted [some a, some b, some (.lst (acc.map prU)), some (.lst (xs ++ [prD (p, g)])), x4, x5, x6] n = some (.next [some a, some b, some (.lst ((acc ++ [(x, g)]).map prU)), some (.lst xs), some p.d, some g.d, x6], n)
      | .made w ps, .made w' qs => if w = w' ∧ ps.length = qs.length then l1_fitted [some a, some b, some (.lst (acc.map prU)), some (.lst (xs ++ [prD (p, g)])), x4, x5, x6] n = some (.next [some a, some b, some (.lst (acc.map prU)), some (.lst (xs ++ ((ps.zip qs).map prD).reverse)), some p.d, some g.d, some (.lst ((ps.zip qs).map prD))], n)
        else l1_fitted [some a, some b, some (.lst (acc.map prU)), some (.lst (xs ++ [prD (p, g)])), x4, x5, x6] n = some (.ret .non, n)
      | _, _ => False) := by
  have pop : ∀ t : Bd, bSeq (sPop 3 (gT (gsC (gN 4) (gsC (gN 5) gsN)))) t [some a, some b, some (.lst (acc.map prU)), some (.lst (xs ++ [prD (p, g)])), x4, x5, x6] n = t [some a, some b, some (.lst (acc.map prU)), some (.lst xs), some p.d, some g.d, x6] n := fun t => bSeq_n (sPop_n (xs := xs) (d := prD (p, g)) rfl rfl)
  cases k with
  | zero => cases p <;> exact hp.elim
  | succ k => cases e with
    | zero => cases g <;> exact hg.elim
    | succ e => cases p with
      | skip => exact hp.elim
      | name x =>
        dsimp only
        have T : trB (e2 fEq (e2 fDG (eVar 4) (eC (.int 0))) (eC (.str ("name" : Str)))) [some a, some b, some (.lst (acc.map prU)), some (.lst xs), some (U.name x).d, some g.d, x6] n = some (true, n) := tEq_t (x := "name") (e2_e (eVar_e rfl) rfl (U.ixG0 _)) rfl
        have S := sApp_n (i := 2) (a := eTup (aCons (e2 fDG (eVar 4) (eC (.int 1))) (aCons (eVar 5) aNil))) (ρ := [some a, some b, some (.lst (acc.map prU)), some (.lst xs), some (U.name x).d, some g.d, x6]) (n := n) (xs := acc.map prU) (d := prU (x, g)) rfl (eTup_e (aCons_e (e2_e (eVar_e rfl) rfl (ixG_name1 x)) (aCons_e (eVar_e rfl) aNil_e))) (by rw [List.length_map]; omega)
        rw [List.map_append]
        exact (pop _).trans ((sIf_t T).trans S)
      | made w ps => cases g with
        | name _ => exact hg.elim
        | skip => exact hg.elim
        | made w' qs =>
          dsimp only
          have T : trB (e2 fEq (e2 fDG (eVar 4) (eC (.int 0))) (eC (.str ("name" : Str)))) [some a, some b, some (.lst (acc.map prU)), some (.lst xs), some (U.made w ps).d, some (U.made w' qs).d, x6] n = some (false, n) := tEq_f (x := "made") (e2_e (eVar_e rfl) rfl (U.ixG0 _)) rfl
          have M : trB (e2 fEq (e2 fDG (eVar 5) (eC (.int 0))) (eC (.str ("made" : Str)))) [some a, some b, some (.lst (acc.map prU)), some (.lst xs), some (U.made w ps).d, some (U.made w' qs).d, x6] n = some (true, n) := tEq_t (x := "made") (e2_e (eVar_e rfl) rfl (U.ixG0 _)) rfl
          have W : trB (e2 fEq (e2 fDG (eVar 5) (eC (.int 1))) (e2 fDG (eVar 4) (eC (.int 1)))) [some a, some b, some (.lst (acc.map prU)), some (.lst xs), some (U.made w ps).d, some (U.made w' qs).d, x6] n = some (decide (w' = w), n) := trB_e (e2_e (e2_e (eVar_e rfl) rfl (ixG_made1 w' qs)) (e2_e (eVar_e rfl) rfl (ixG_made1 w ps)) eq_str) rfl
          have P5 : e2 fDG (eVar 5) (eC (.int 2)) [some a, some b, some (.lst (acc.map prU)), some (.lst xs), some (U.made w ps).d, some (U.made w' qs).d, x6] n = some (.tup (qs.map U.d), n) := e2_e (eVar_e rfl) rfl (ixG_made2 w' qs)
          have P4 : e2 fDG (eVar 4) (eC (.int 2)) [some a, some b, some (.lst (acc.map prU)), some (.lst xs), some (U.made w ps).d, some (U.made w' qs).d, x6] n = some (.tup (ps.map U.d), n) := e2_e (eVar_e rfl) rfl (ixG_made2 w ps)
          have L : trB (e2 fEq (eF (f1 fLen) (aCons (e2 fDG (eVar 5) (eC (.int 2))) aNil)) (eF (f1 fLen) (aCons (e2 fDG (eVar 4) (eC (.int 2))) aNil))) [some a, some b, some (.lst (acc.map prU)), some (.lst xs), some (U.made w ps).d, some (U.made w' qs).d, x6] n = some (decide ((qs.length : Int) = (ps.length : Int)), n) :=
            trB_e (e2_e (eF_e (aCons_e P5 aNil_e) rfl) (eF_e (aCons_e P4 aNil_e) rfl) (z := .bl (decide ((qs.length : Int) = (ps.length : Int)))) (by show some (D.bl (decide ((((qs.map U.d).length : Nat) : Int) = (((ps.map U.d).length : Nat) : Int)))) = _; rw [List.length_map, List.length_map])) rfl
          by_cases hc : w = w' ∧ ps.length = qs.length
          · rw [if_pos hc]
            rw [decide_eq_true hc.1.symm] at W
            rw [decide_eq_true (by omega)] at L
            refine (pop _).trans ((sIf_f T).trans ((sIf_t ((tAn_t M).trans ((tAn_t W).trans L))).trans ((bSeq_n (sSet_n (e2_e P4 P5 (z := .lst ((ps.zip qs).map prD)) (by rw [← prs_map]; rfl)))).trans ?_)))
            exact sExt_l rfl (e1_e (eVar_e rfl) rfl) (by rw [List.length_reverse, List.length_map, List.length_zip]; have := hp.2.1; omega)
          · rw [if_neg hc]
            refine (pop _).trans ((sIf_f T).trans ((sIf_f ((tAn_t M).trans ?_)).trans (sRet_r rfl)))
            by_cases hw : w' = w
            · rw [decide_eq_true hw] at W
              rw [decide_eq_false (fun z => hc ⟨hw.symm, by omega⟩)] at L
              exact (tAn_t W).trans L
            · rw [decide_eq_false hw] at W
              exact tAn_f W
theorem floop : ∀ (f : Nat) (st : List (U × U)) (acc : As) (a b : D) (x4 x5 x6 : Option D) (n : Sx), (∀ p ∈ st, ∃ k e, Pt k p.1 ∧ Pl e p.2) → ssz st < f → acc.length + ssz st ≤ 500000 →
    ∃ fl, wM fcond l1_fitted f [some a, some b, some (.lst (acc.map prU)), some (.lst (st.reverse.map prD)), x4, x5, x6] n = some (fl, n) ∧
      (match fitL st with
        | some l => ∃ y4 y5 y6, fl = .next [some a, some b, some (.lst ((acc ++ l).map prU)), some (.lst []), y4, y5, y6]
        | none => fl = .ret .non)
  | 0, _, _, _, _, _, _, _, _, _, h, _ => by omega
  | f + 1, [], acc, a, b, x4, x5, x6, n, _, _, _ => ⟨_, wM_f (trB_e (eVar_e rfl) rfl), x4, x5, x6, by rw [List.append_nil]; rfl⟩
  | f + 1, (p, g) :: r, acc, a, b, x4, x5, x6, n, hok, hf, h5 => by
    obtain ⟨k, e, hp, hg⟩ := hok (p, g) (by simp)
    have hr : ∀ q ∈ r, ∃ k e, Pt k q.1 ∧ Pl e q.2 := fun q hq => hok q (by simp [hq])
    rw [ssz_cons] at hf h5
    dsimp only at hf h5
    have hup := p.sz_pos
    rw [List.reverse_cons, List.map_append]
    show ∃ fl, wM fcond l1_fitted (f + 1) [some a, some b, some (.lst (acc.map prU)), some (.lst (r.reverse.map prD ++ [prD (p, g)])), x4, x5, x6] n = some (fl, n) ∧ _
    have ec : fcond [some a, some b, some (.lst (acc.map prU)), some (.lst (r.reverse.map prD ++ [prD (p, g)])), x4, x5, x6] n = some (true, n) := trB_e (eVar_e rfl) (by show some (!(_ ++ _ : List D).isEmpty) = _; cases r.reverse.map prD <;> rfl)
    have lr : (r.reverse.map prD).length ≤ ssz r := by rw [List.length_map, List.length_reverse]; exact ssz_len r
    have B := fbody (a := a) (b := b) (x4 := x4) (x5 := x5) (x6 := x6) (n := n) (acc := acc) (xs := r.reverse.map prD) hp hg (by omega) (by omega)
    cases p with
    | skip => exact B.elim
    | name x =>
      dsimp only at B
      rw [wM_t ec B]
      simp only [U.sz] at hf h5
      obtain ⟨fl, h1, h2⟩ := floop f r (acc ++ [(x, g)]) a b (some (U.name x).d) (some g.d) x6 n hr (by omega) (by rw [List.length_append, List.length_singleton]; omega)
      refine ⟨fl, h1, ?_⟩
      have e0 : fitL ((U.name x, g) :: r) = (fitL r).map ([(x, g)] ++ ·) := by simp only [fitL, fit, Option.bind_some]
      rw [e0]
      cases hfl : fitL r with
      | none => rw [hfl] at h2; exact h2
      | some l =>
        rw [hfl] at h2
        obtain ⟨y4, y5, y6, q⟩ := h2
        exact ⟨y4, y5, y6, by rw [q, List.append_assoc]⟩
    | made w ps => cases g with
      | name _ => exact B.elim
      | skip => exact B.elim
      | made w' qs =>
        dsimp only at B
        by_cases hc : w = w' ∧ ps.length = qs.length
        · rw [if_pos hc] at B
          rw [wM_t ec B]
          have hzs := ssz_zip ps qs
          simp only [U.sz] at hf h5
          have e1 : r.reverse.map prD ++ ((ps.zip qs).map prD).reverse = (ps.zip qs ++ r).reverse.map prD := by rw [List.reverse_append, List.map_append, List.map_reverse (l := ps.zip qs)]
          rw [e1]
          cases k with
          | zero => exact hp.elim
          | succ k => cases e with
            | zero => exact hg.elim
            | succ e =>
              obtain ⟨fl, h1, h2⟩ := floop f (ps.zip qs ++ r) acc a b (some (U.made w ps).d) (some (U.made w' qs).d) (some (.lst ((ps.zip qs).map prD))) n (fun q hq => by
                rcases List.mem_append.mp hq with h | h
                · obtain ⟨m1, m2⟩ := List.of_mem_zip h
                  exact ⟨k, e, hp.2.2 _ m1, hg.2.2 _ m2⟩
                · exact hr q h) (by rw [ssz_app]; omega) (by rw [ssz_app]; omega)
              refine ⟨fl, h1, ?_⟩
              have e0 : fitL ((U.made w ps, U.made w' qs) :: r) = fitL (ps.zip qs ++ r) := by
                rw [fitA_zip]
                simp only [fitL, fit, if_pos hc]
              rw [e0]
              exact h2
        · rw [if_neg hc] at B
          refine ⟨_, wM_r ec B, ?_⟩
          have e0 : fitL ((U.made w ps, U.made w' qs) :: r) = none := by simp only [fitL, fit, if_neg hc, Option.bind_none]
          rw [e0]
theorem fitted_f {p g : U} {k e : Nat} {n : Sx} (hp : Pt k p) (hg : Pl e g) (hz : p.sz ≤ 400000) : F_fitted [p.d, g.d] n = some ((match fit p g with | some l => .tup (l.map prU) | none => .non), n) := by
  obtain ⟨fl, h1, h2⟩ := floop FU [(p, g)] [] p.d g.d none none none n (fun q hq => by rw [List.mem_singleton.mp hq]; exact ⟨k, e, hp, hg⟩) (by simp [ssz, FU]; omega) (by simp [ssz]; omega)
  have e0 : fitL [(p, g)] = fit p g := by
    simp only [fitL]
    cases fit p g <;> simp
  rw [e0] at h2
  have W : sWh fcond l1_fitted [some p.d, some g.d, some (.lst []), some (.lst [.tup [p.d, g.d]]), none, none, none] n = some (fl, n) := h1
  refine fn_ret rfl ?_
  show b_fitted [some p.d, some g.d, none, none, none, none, none] n = _
  unfold b_fitted
  refine (bSeq_n (sSet_n (eLst_e aNil_e))).trans ((bSeq_n (sSet_n (eLst_e (aCons_e (eTup_e (aCons_e (eVar_e rfl) (aCons_e (eVar_e rfl) aNil_e))) aNil_e)))).trans ?_)
  cases hf : fit p g with
  | none =>
    rw [hf] at h2
    dsimp only at h2 ⊢
    subst h2
    exact bSeq_r W
  | some l =>
    rw [hf] at h2
    obtain ⟨y4, y5, y6, rfl⟩ := h2
    refine (bSeq_n W).trans (sRet_r (eF_e (aCons_e (eVar_e rfl) aNil_e) ?_))
    rfl
end Sh


set_option Elab.async false
set_option linter.all false
set_option maxRecDepth 100000
namespace Sh
open PySem L2 Nf
def F_isc : List D → M D := fnA 3 6 (b_is_covered F_fitted)
theorem flen : ∀ {k e : Nat} {p g : U} {l : As}, Pt k p → Pl e g → fit p g = some l → ∀ q ∈ l, q.1.length ≤ 1000 ∧ Pl e q.2
  | 0, _, .made _ _, _, _, h, _, _ => h.elim
  | 0, _, .name _, _, _, h, _, _ => h.elim
  | 0, _, .skip, _, _, h, _, _ => h.elim
  | k + 1, e, .skip, _, _, h, _, _ => h.elim
  | k + 1, e, .name x, g, l, h, hg, hf => by
    simp only [fit] at hf
    cases hf
    intro q hq
    rw [List.mem_singleton.mp hq]
    exact ⟨h.2, hg⟩
  | k + 1, e, .made w ps, .name _, l, h, hg, hf => by simp [fit] at hf
  | k + 1, e, .made w ps, .skip, l, h, hg, hf => by simp [fit] at hf
  | k + 1, 0, .made w ps, .made w' qs, l, h, hg, hf => hg.elim
  | k + 1, e + 1, .made w ps, .made w' qs, l, h, hg, hf => by
    simp only [fit] at hf
    split at hf
    · have key : ∀ (ps qs : List U) (l : As), (∀ p ∈ ps, Pt k p) → (∀ q ∈ qs, Pl e q) → (∀ p ∈ ps, ∀ (g : U) (l : As), Pl e g → fit p g = some l → ∀ q ∈ l, q.1.length ≤ 1000 ∧ Pl e q.2) → fitA ps qs = some l → ∀ q ∈ l, q.1.length ≤ 1000 ∧ Pl (e + 1) q.2 := by
        intro ps
        induction ps with
        | nil => intro qs l _ _ _ hl; simp [fitA] at hl; subst hl; intro q hq; simp at hq
        | cons p ps ih =>
          intro qs l h1 h2 h3 hl
          cases qs with
          | nil => simp [fitA] at hl; subst hl; intro q hq; simp at hq
          | cons q qs =>
            simp only [fitA] at hl
            obtain ⟨l1, e1, e2⟩ := Option.bind_eq_some_iff.mp hl
            obtain ⟨l2, e3, rfl⟩ := Option.map_eq_some_iff.mp e2
            intro z hz
            rcases List.mem_append.mp hz with hz | hz
            · have := h3 p (by simp) q l1 (h2 q (by simp)) e1 z hz
              exact ⟨this.1, this.2.mono (by omega)⟩
            · exact ih qs l2 (fun p hp => h1 p (by simp [hp])) (fun q hq => h2 q (by simp [hq])) (fun p hp => h3 p (by simp [hp])) e3 z hz
      exact key ps qs l h.2.2 hg.2.2 (fun p hp g l hg hf => flen (h.2.2 p hp) hg hf) hf
    · cases hf
theorem fit_len : ∀ (p g : U) (l : As), fit p g = some l → l.length ≤ p.sz := by
  intro p
  exact U.rec (motive_1 := fun p => ∀ (g : U) (l : As), fit p g = some l → l.length ≤ p.sz) (motive_2 := fun ps => ∀ (qs : List U) (l : As), fitA ps qs = some l → l.length ≤ U.szA ps)
    (fun x g l h => by simp only [fit] at h; cases h; simp [U.sz])
    (fun g l h => by cases g <;> simp [fit] at h)
    (fun w ps ih g l h => by
      cases g with
      | name _ => simp [fit] at h
      | skip => simp [fit] at h
      | made w' qs =>
        simp only [fit] at h
        split at h
        · have := ih qs l h
          simp only [U.sz]; omega
        · cases h)
    (fun qs l h => by simp [fitA] at h; subst h; simp)
    (fun p ps ih1 ih2 qs l h => by
      cases qs with
      | nil => simp [fitA] at h; subst h; simp
      | cons q qs =>
        simp only [fitA] at h
        obtain ⟨l1, e1, e2⟩ := Option.bind_eq_some_iff.mp h
        obtain ⟨l2, e3, rfl⟩ := Option.map_eq_some_iff.mp e2
        have h1 := ih1 q l1 e1
        have h2 := ih2 qs l2 e3
        rw [List.length_append]
        simp only [U.szA]; omega) p
theorem isD_dk (σ : As) : isDk (dkD σ) = some () := rfl
theorem eSd_old {ρ : Sd} {a b c : Ed} {n : Nat} {ms : List D} {σ : As} {x : Str} {g v : U} (ha : ∀ m, a ρ m = some (.shr ms.length, m)) (hb : ∀ m, b ρ m = some (.str x, m)) (hc : ∀ m, c ρ m = some (g.d, m)) (hl : lk σ x = some v) (hz : σ.length < 1000000) :
    eSd a b c ρ (n, ms ++ [dkD σ]) = some (v.d, n, ms ++ [dkD σ]) := by
  unfold eSd
  rw [Mb_eq (ha _)]
  show Mb (gS ms.length) _ _ = _
  rw [Mb_eq get_last]
  show Mb (b ρ) _ _ = _
  rw [Mb_eq (hb _), Mb_eq (hc _), Mb_eq get_last]
  show (if (σ.map fun (p : Str × U) => (Sum.inr p.1 : Key)).length < sizeLine then _ else Mo none) _ = _
  rw [if_pos (by rw [List.length_map, PySem.sizeLine_eq]; omega)]
  show (match dval (σ.map fun (p : Str × U) => (Sum.inr p.1 : Key)) (σ.map fun (p : Str × U) => p.2.d) (.inr x) with
    | some v => Mp v
    | none => Mb (pS ms.length (.dk (putD (σ.map fun (p : Str × U) => (Sum.inr p.1 : Key), σ.map fun (p : Str × U) => p.2.d) (.inr x) g.d).1 (putD (σ.map fun (p : Str × U) => (Sum.inr p.1 : Key), σ.map fun (p : Str × U) => p.2.d) (.inr x) g.d).2)) fun _ => Mp g.d) _ = _
  rw [dval_dk, hl]
  rfl
theorem eSd_new {ρ : Sd} {a b c : Ed} {n : Nat} {ms : List D} {σ : As} {x : Str} {g : U} (ha : ∀ m, a ρ m = some (.shr ms.length, m)) (hb : ∀ m, b ρ m = some (.str x, m)) (hc : ∀ m, c ρ m = some (g.d, m)) (hl : lk σ x = none) (hz : σ.length < 1000000) :
    eSd a b c ρ (n, ms ++ [dkD σ]) = some (g.d, n, ms ++ [dkD (σ ++ [(x, g)])]) := by
  unfold eSd
  rw [Mb_eq (ha _)]
  show Mb (gS ms.length) _ _ = _
  rw [Mb_eq get_last]
  show Mb (b ρ) _ _ = _
  rw [Mb_eq (hb _), Mb_eq (hc _), Mb_eq get_last]
  show (if (σ.map fun (p : Str × U) => (Sum.inr p.1 : Key)).length < sizeLine then _ else Mo none) _ = _
  rw [if_pos (by rw [List.length_map, PySem.sizeLine_eq]; omega)]
  show (match dval (σ.map fun (p : Str × U) => (Sum.inr p.1 : Key)) (σ.map fun (p : Str × U) => p.2.d) (.inr x) with
    | some v => Mp v
    | none => Mb (pS ms.length (.dk (putD (σ.map fun (p : Str × U) => (Sum.inr p.1 : Key), σ.map fun (p : Str × U) => p.2.d) (.inr x) g.d).1 (putD (σ.map fun (p : Str × U) => (Sum.inr p.1 : Key), σ.map fun (p : Str × U) => p.2.d) (.inr x) g.d).2)) fun _ => Mp g.d) _ = _
  rw [dval_dk, hl, put_new hl]
  show Mb (pS ms.length (dkD (σ ++ [(x, g)]))) (fun _ => Mp g.d) _ = _
  rw [Mb_eq (show pS ms.length (dkD (σ ++ [(x, g)])) (n, ms ++ [dkD σ]) = some ((), n, (ms ++ [dkD σ]).set ms.length (dkD (σ ++ [(x, g)]))) from if_pos (dk_flat _)), set_last]
  rfl
theorem iloop {T P F : D} {n : Nat} {ms : List D} {e : Nat} (he : e ≤ 12) : ∀ (l σ : As) (x4 x5 : Option D), (∀ q ∈ l, q.1.length ≤ 1000 ∧ Pl e q.2) → SOk σ → σ.length + l.length ≤ 1000 →
    (∀ σ', addL l σ = some σ' → ∃ y4 y5, fM (gT (gsC (gN 4) (gsC (gN 5) gsN))) l1_is_covered (l.map prU) [some T, some P, some (.shr ms.length), some F, x4, x5] (n, ms ++ [dkD σ]) = some (.next [some T, some P, some (.shr ms.length), some F, y4, y5], n, ms ++ [dkD σ'])) ∧
    (addL l σ = none → ∃ c, fM (gT (gsC (gN 4) (gsC (gN 5) gsN))) l1_is_covered (l.map prU) [some T, some P, some (.shr ms.length), some F, x4, x5] (n, ms ++ [dkD σ]) = some (.ret (.bl false), n, ms ++ [c]))
  | [], σ, x4, x5, _, _, _ => ⟨fun σ' h => by cases h; exact ⟨x4, x5, rfl⟩, fun h => nomatch h⟩
  | (x, g) :: r, σ, x4, x5, hP, hs, hl => by
    obtain ⟨hx, hg⟩ := hP (x, g) (by simp)
    rw [List.length_cons] at hl
    have gok := hg.ok
    have gg : (gT (gsC (gN 4) (gsC (gN 5) gsN))) (prU (x, g)) [some T, some P, some (.shr ms.length), some F, x4, x5] = some [some T, some P, some (.shr ms.length), some F, some (.str x), some g.d] := rfl
    have C : ∀ (v : D) (b : Bool) (m : Sx), eSd (eVar 2) (eVar 4) (eVar 5) [some T, some P, some (.shr ms.length), some F, some (.str x), some g.d] (n, ms ++ [dkD σ]) = some (v, m) → fNe v g.d = some (.bl b) → trB (e2 fNe (eSd (eVar 2) (eVar 4) (eVar 5)) (eVar 5)) [some T, some P, some (.shr ms.length), some F, some (.str x), some g.d] (n, ms ++ [dkD σ]) = some (b, m) := fun v b m h1 h2 =>
      trB_e (e2_e h1 (eVar_e rfl) h2) rfl
    have next : ∀ τ : As, SOk τ → τ.length ≤ σ.length + 1 → add x g σ = some τ → l1_is_covered [some T, some P, some (.shr ms.length), some F, some (.str x), some g.d] (n, ms ++ [dkD σ]) = some (.next [some T, some P, some (.shr ms.length), some F, some (.str x), some g.d], n, ms ++ [dkD τ]) →
        (∀ σ', addL ((x, g) :: r) σ = some σ' → ∃ y4 y5, fM (gT (gsC (gN 4) (gsC (gN 5) gsN))) l1_is_covered (((x, g) :: r).map prU) [some T, some P, some (.shr ms.length), some F, x4, x5] (n, ms ++ [dkD σ]) = some (.next [some T, some P, some (.shr ms.length), some F, y4, y5], n, ms ++ [dkD σ'])) ∧
        (addL ((x, g) :: r) σ = none → ∃ c, fM (gT (gsC (gN 4) (gsC (gN 5) gsN))) l1_is_covered (((x, g) :: r).map prU) [some T, some P, some (.shr ms.length), some F, x4, x5] (n, ms ++ [dkD σ]) = some (.ret (.bl false), n, ms ++ [c])) := fun τ h1 h2 h3 h4 => by
      obtain ⟨j1, j2⟩ := iloop (T := T) (P := P) (F := F) (n := n) (ms := ms) he r τ (some (.str x)) (some g.d) (fun q hq => hP q (by simp [hq])) h1 (by omega)
      have e0 : addL ((x, g) :: r) σ = addL r τ := by simp only [addL, h3, Option.bind_some]
      rw [e0, List.map_cons, fM_next gg h4]
      exact ⟨j1, j2⟩
    cases hlk : lk σ x with
    | none =>
      have ea : add x g σ = some (σ ++ [(x, g)]) := by unfold add; rw [hlk]
      obtain ⟨q1, q2⟩ := add_ok hs (hg.mono he) hx ea
      exact next _ q1 q2 ea ((sIf_f (C _ false _ (eSd_new (fun m => eVar_e rfl) (fun m => eVar_e rfl) (fun m => eVar_e rfl) hlk (by omega)) (U.fNe_f gok (by omega)))).trans rfl)
    | some v =>
      have vok := (hs _ (lk_mem hlk)).1.ok
      have E := eSd_old (ρ := [some T, some P, some (.shr ms.length), some F, some (.str x), some g.d]) (a := eVar 2) (b := eVar 4) (c := eVar 5) (n := n) (ms := ms) (g := g) (fun m => eVar_e rfl) (fun m => eVar_e rfl) (fun m => eVar_e rfl) hlk (by omega)
      by_cases hv : v = g
      · subst hv
        have ea : add x v σ = some σ := by unfold add; rw [hlk]; dsimp only; rw [if_pos rfl]
        exact next σ hs (by omega) ea ((sIf_f (C _ false _ E (U.fNe_f gok (by omega)))).trans rfl)
      · have ea : add x g σ = none := by unfold add; rw [hlk]; dsimp only; rw [if_neg hv]
        have e0 : addL ((x, g) :: r) σ = none := by simp only [addL, ea, Option.bind_none]
        refine ⟨fun σ' h => (by rw [e0] at h; cases h), fun _ => ⟨dkD σ, ?_⟩⟩
        rw [List.map_cons]
        exact fM_ret gg ((sIf_t (C _ true _ E (U.fNe_t vok (U.ok_mono he gok) (by decide) hv))).trans (sRet_r rfl))
theorem isc_f {k e : Nat} {p g : U} (hp : Pt k p) (hg : Pl e g) (he : e ≤ 12) : MtF F_isc p g := by
  intro σ n ms hs hl
  rw [mt_fit]
  have FF := fitted_f (n := (n, ms ++ [dkD σ])) hp hg (by omega)
  cases hf : fit p g with
  | none =>
    rw [hf] at FF
    refine ⟨fun σ' h => (nomatch h), fun _ => ⟨dkD σ, fn_ret rfl ((bSeq_n (sSet_n (eCall_e (aCons_e (eVar_e rfl) (aCons_e (eVar_e rfl) aNil_e)) FF))).trans (bSeq_r ((sIf_t (trB_e (x := .bl true) (e2_e (eVar_e rfl) rfl rfl) rfl)).trans (sRet_r rfl))))⟩⟩
  | some l =>
    rw [hf] at FF
    dsimp only at FF
    have hll := fit_len p g l hf
    obtain ⟨j1, j2⟩ := iloop (T := p.d) (P := g.d) (F := .tup (l.map prU)) (n := n) (ms := ms) he l σ none none (flen hp hg hf) hs (by omega)
    have go : ∀ w, bSeq (sFor (iSeq (eVar 3)) (gT (gsC (gN 4) (gsC (gN 5) gsN))) l1_is_covered) (sRet (eC (.bl true))) [some p.d, some g.d, some (.shr ms.length), some (.tup (l.map prU)), none, none] (n, ms ++ [dkD σ]) = some (.ret w.1, w.2) → F_isc [p.d, g.d, .shr ms.length] (n, ms ++ [dkD σ]) = some w := fun w hw =>
      fn_ret rfl ((bSeq_n (sSet_n (eCall_e (aCons_e (eVar_e rfl) (aCons_e (eVar_e rfl) aNil_e)) FF))).trans ((bSeq_n ((sIf_f (trB_e (x := .bl false) (e2_e (eVar_e rfl) rfl rfl) rfl)).trans rfl)).trans hw))
    have S : ∀ z, fM (gT (gsC (gN 4) (gsC (gN 5) gsN))) l1_is_covered (l.map prU) [some p.d, some g.d, some (.shr ms.length), some (.tup (l.map prU)), none, none] (n, ms ++ [dkD σ]) = z → sFor (iSeq (eVar 3)) (gT (gsC (gN 4) (gsC (gN 5) gsN))) l1_is_covered [some p.d, some g.d, some (.shr ms.length), some (.tup (l.map prU)), none, none] (n, ms ++ [dkD σ]) = z := fun z hz =>
      (sFor_i (iSeq_e (eVar_e rfl) (items_tup (by rw [List.length_map]; omega)))).trans hz
    show (∀ σ', addL l σ = some σ' → _) ∧ (addL l σ = none → _)
    refine ⟨fun σ' h => ?_, fun h => ?_⟩
    · obtain ⟨y4, y5, q⟩ := j1 σ' h
      exact go (_, _) ((bSeq_n (S _ q)).trans (sRet_r rfl))
    · obtain ⟨c, q⟩ := j2 h
      exact ⟨c, go (_, _) (bSeq_r (S _ q))⟩
end Sh


set_option Elab.async false
set_option linter.all false
set_option maxRecDepth 100000
namespace Sh
open PySem L2 Nf
def F_covers : List D → M D := fnA 3 7 (b_covers F_isc)
def gvOf (ts : List Tr3) : As := ts.map fun t => (t.1, t.2.2)
theorem put_pair {σ : As} {x : Str} {u : U} (h : lk σ x = none) : putD (σ.map fun (p : Str × U) => (Sum.inr p.1 : Key), σ.map fun (p : Str × U) => p.2.d) (.inr x) u.d = ((σ ++ [(x, u)]).map fun (p : Str × U) => (Sum.inr p.1 : Key), (σ ++ [(x, u)]).map fun (p : Str × U) => p.2.d) := by
  unfold putD
  rw [if_neg (by rw [lk_any, h]; decide), List.map_append, List.map_append]
  rfl
theorem dc_f {ρ : Sd} {n : Sx} (h5 : 5 < ρ.length) (h6 : 6 < ρ.length) : ∀ (l acc : As), ((acc ++ l).map Prod.fst).Nodup → dcM (gT (gsC (gN 5) (gsC (gN 6) gsN))) tY (eVar 5) (eVar 6) ρ (l.map prU) (acc.map fun (p : Str × U) => (Sum.inr p.1 : Key), acc.map fun (p : Str × U) => p.2.d) n = some (((acc ++ l).map fun (p : Str × U) => (Sum.inr p.1 : Key), (acc ++ l).map fun (p : Str × U) => p.2.d), n)
  | [], acc, _ => by rw [List.append_nil]; rfl
  | (x, u) :: r, acc, hn => by
    have g : (gT (gsC (gN 5) (gsC (gN 6) gsN))) (prU (x, u)) ρ = some ((ρ.set 5 (some (.str x))).set 6 (some u.d)) := rfl
    have e5 : ((ρ.set 5 (some (.str x))).set 6 (some u.d))[5]? = some (some (.str x)) := by
      rw [List.getElem?_set_ne (by decide), List.getElem?_set_self h5]
    have e6 : ((ρ.set 5 (some (.str x))).set 6 (some u.d))[6]? = some (some u.d) := List.getElem?_set_self (by rw [List.length_set]; exact h6)
    have hl : lk acc x = none := lk_none fun m => by
      rw [List.map_append, List.nodup_append] at hn
      exact hn.2.2 x m x (by simp) rfl
    have ih := dc_f (n := n) h5 h6 r (acc ++ [(x, u)]) (by rw [List.append_assoc]; exact hn)
    rw [List.append_assoc] at ih
    rw [List.map_cons]
    unfold dcM
    unfold Mb
    rw [g]
    simp only [Mo, Option.map_some, tY, Mp, if_true, eVar_e e5, eVar_e e6, keyD, put_pair hl]
    exact ih
theorem lk_gv : ∀ {ts : List Tr3} {t : Tr3}, (ts.map Prod.fst).Nodup → t ∈ ts → lk (gvOf ts) t.1 = some t.2.2
  | a :: r, t, hn, ht => by
    rw [List.map_cons, List.nodup_cons] at hn
    show (if a.1 = t.1 then some a.2.2 else lk (gvOf r) t.1) = _
    rcases List.mem_cons.mp ht with rfl | ht
    · rw [if_pos rfl]
    · rw [if_neg (fun e => hn.1 (by rw [e]; exact List.mem_map.mpr ⟨t, ht, rfl⟩))]
      exact lk_gv hn.2 ht
theorem notinD (x : Str) (σ : As) : fNotInD (.str x) (dkD σ) = some (.bl (!(lk σ x).isSome)) := notinK x σ
theorem cloop {X G V : D} {gv : As} {n : Nat} {ms : List D} : ∀ (ts : List Tr3) (σ : As) (x5 x6 : Option D), Chk ts → (∀ t ∈ ts, lk gv t.1 = some t.2.2) → SOk σ → σ.length + ssz (ts.map (·.2)) ≤ 1000 →
    (∀ σ', mtL (ts.map (·.2)) σ = some σ' → ∃ y5 y6, fM (gT (gsC (gN 5) (gsC (gN 6) gsN))) (l1_covers F_isc) (ts.map tL) [some X, some G, some V, some (.shr ms.length), some (dkD gv), x5, x6] (n, ms ++ [dkD σ]) = some (.next [some X, some G, some V, some (.shr ms.length), some (dkD gv), y5, y6], n, ms ++ [dkD σ'])) ∧
    (mtL (ts.map (·.2)) σ = none → ∃ c, fM (gT (gsC (gN 5) (gsC (gN 6) gsN))) (l1_covers F_isc) (ts.map tL) [some X, some G, some V, some (.shr ms.length), some (dkD gv), x5, x6] (n, ms ++ [dkD σ]) = some (.ret .non, n, ms ++ [c]))
  | [], σ, x5, x6, _, _, _, _ => ⟨fun σ' h => by cases h; exact ⟨x5, x6, rfl⟩, fun h => nomatch h⟩
  | t :: r, σ, x5, x6, hP, hG, hs, hl => by
    obtain ⟨hpt, hpl⟩ := hP t (by simp)
    have hgt := hG t (by simp)
    rw [List.map_cons, ssz_cons] at hl
    have hpg := isc_f hpt hpl (by decide) σ n ms hs (by omega)
    have gg : (gT (gsC (gN 5) (gsC (gN 6) gsN))) (tL t) [some X, some G, some V, some (.shr ms.length), some (dkD gv), x5, x6] = some [some X, some G, some V, some (.shr ms.length), some (dkD gv), some (.str t.1), some t.2.1.d] := rfl
    have N : trB (e2 fNotInD (eVar 5) (eVar 4)) [some X, some G, some V, some (.shr ms.length), some (dkD gv), some (.str t.1), some t.2.1.d] (n, ms ++ [dkD σ]) = some (false, n, ms ++ [dkD σ]) := trB_e (e2_e (eVar_e rfl) (eVar_e rfl) (by rw [notinD, hgt])) rfl
    have C : ∀ (b : Bool) (m : Sx), F_isc [t.2.1.d, t.2.2.d, .shr ms.length] (n, ms ++ [dkD σ]) = some (.bl b, m) → tOr' (trB (e2 fNotInD (eVar 5) (eVar 4))) (tNt (trB (eCall F_isc (aCons (eVar 6) (aCons (e2 fDG (eVar 4) (eVar 5)) (aCons (eVar 3) aNil)))))) [some X, some G, some V, some (.shr ms.length), some (dkD gv), some (.str t.1), some t.2.1.d] (n, ms ++ [dkD σ]) = some (!b, m) := fun b m h =>
      (tOr_f N).trans (tNt_e (trB_e (eCall_e (aCons_e (eVar_e rfl) (aCons_e (e2_e (eVar_e rfl) (eVar_e rfl) (getK hgt)) (aCons_e (eVar_e rfl) aNil_e))) h) rfl))
    rw [List.map_cons]
    cases hm : mt t.2.1 t.2.2 σ with
    | none =>
      obtain ⟨c, hc⟩ := hpg.2 hm
      have e0 : mtL (t.2 :: r.map (·.2)) σ = none := by simp only [mtL, hm, Option.bind_none]
      refine ⟨fun σ' h => (by rw [e0] at h; cases h), fun _ => ⟨c, ?_⟩⟩
      rw [List.map_cons]
      exact fM_ret gg ((sIf_t (C false _ hc)).trans (sRet_r rfl))
    | some τ =>
      have e0 : mtL (t.2 :: r.map (·.2)) σ = mtL (r.map (·.2)) τ := by simp only [mtL, hm, Option.bind_some]
      obtain ⟨hs2, hl2⟩ := mt_ok hpt hpl (by decide) hs hm
      obtain ⟨j1, j2⟩ := cloop (X := X) (G := G) (V := V) (gv := gv) (n := n) (ms := ms) r τ (some (.str t.1)) (some t.2.1.d) (fun q hq => hP q (by simp [hq])) (fun q hq => hG q (by simp [hq])) hs2 (by omega)
      have step : ∀ z, fM (gT (gsC (gN 5) (gsC (gN 6) gsN))) (l1_covers F_isc) (r.map tL) [some X, some G, some V, some (.shr ms.length), some (dkD gv), some (.str t.1), some t.2.1.d] (n, ms ++ [dkD τ]) = z → fM (gT (gsC (gN 5) (gsC (gN 6) gsN))) (l1_covers F_isc) ((t :: r).map tL) [some X, some G, some V, some (.shr ms.length), some (dkD gv), x5, x6] (n, ms ++ [dkD σ]) = z := fun z hz => by
        rw [List.map_cons]
        exact (fM_next gg ((sIf_f (C true _ (hpg.1 τ hm))).trans rfl)).trans hz
      rw [e0]
      refine ⟨fun σ' h => ?_, fun h => ?_⟩
      · obtain ⟨y3, y4, q⟩ := j1 σ' h
        exact ⟨y3, y4, step _ q⟩
      · obtain ⟨c, q⟩ := j2 h
        exact ⟨c, step _ q⟩
theorem pairD_e : ∀ σ : As, pairD (σ.map fun (p : Str × U) => (Sum.inr p.1 : Key)) (σ.map fun (p : Str × U) => p.2.d) = σ.map prU
  | [] => rfl
  | p :: r => by
    show .tup [.str p.1, p.2.d] :: pairD (r.map fun (p : Str × U) => (Sum.inr p.1 : Key)) (r.map fun (p : Str × U) => p.2.d) = _
    rw [pairD_e r]; rfl
theorem fIt_e {σ : As} (h : SOk σ) : fItT (dkD σ) = some (.tup (σ.map prU)) := by
  have hk : keysOk (σ.map fun (p : Str × U) => (Sum.inr p.1 : Key)) = true := by
    unfold keysOk
    rw [List.all_eq_true]
    intro k hk
    obtain ⟨p, hp, rfl⟩ := List.mem_map.mp hk
    show decide (p.1.length ≤ sizeLine) = true
    have := (h p hp).2
    exact decide_eq_true (by rw [PySem.sizeLine_eq]; omega)
  show (if keysOk (σ.map fun (p : Str × U) => (Sum.inr p.1 : Key)) = true then some (D.tup (pairD (σ.map fun (p : Str × U) => (Sum.inr p.1 : Key)) (σ.map fun (p : Str × U) => p.2.d))) else none) = _
  rw [if_pos hk, pairD_e]
theorem covers_f {ts : List Tr3} {av vv : U} {n : Nat} {ms : List D} (hP : Chk ts) (hn : (ts.map Prod.fst).Nodup) (ha : Pt 12 av) (hv : Pl 12 vv) (hl : ssz (ts.map (·.2)) + av.sz ≤ 1000) (h4 : ts.length ≤ 4) :
    (∀ σ, (mtL (ts.map (·.2)) []).bind (mt av vv) = some σ → F_covers [ansD ts av, .tup (ts.map tR), vv.d] (n, ms) = some (.tup (σ.map prU), n, ms ++ [dkD σ])) ∧
    ((mtL (ts.map (·.2)) []).bind (mt av vv) = none → ∃ c, F_covers [ansD ts av, .tup (ts.map tR), vv.d] (n, ms) = some (.non, n, ms ++ [c])) := by
  have s0 : SOk [] := fun q hq => nomatch hq
  obtain ⟨j1, j2⟩ := cloop (X := ansD ts av) (G := .tup (ts.map tR)) (V := vv.d) (gv := gvOf ts) (n := n) (ms := ms) ts [] none none hP (fun t ht => lk_gv hn ht) s0 (by simp; omega)
  have eg : eDc (iSeq (eVar 1)) (gT (gsC (gN 5) (gsC (gN 6) gsN))) tY (eVar 5) (eVar 6) [5, 6] [some (ansD ts av), some (.tup (ts.map tR)), some vv.d, some (.shr ms.length), none, none, none] (n, ms ++ [dkD []]) = some (dkD (gvOf ts), n, ms ++ [dkD []]) := by
    have e1 : ts.map tR = (gvOf ts).map prU := by unfold gvOf; rw [List.map_map]; rfl
    have e2 : ((([] : As) ++ gvOf ts).map Prod.fst).Nodup := by
      rw [List.nil_append]
      unfold gvOf
      rw [List.map_map]
      exact hn
    have d := dc_f (ρ := [some (ansD ts av), some (.tup (ts.map tR)), some vv.d, some (.shr ms.length), none, none, none]) (n := (n, ms ++ [dkD []])) (by simp) (by simp) (gvOf ts) [] e2
    unfold eDc
    rw [Mb_eq (iSeq_e (eVar_e rfl) (items_tup (by rw [List.length_map]; omega)))]
    show Mb (dcM _ tY (eVar 5) (eVar 6) [some (ansD ts av), some (.tup (ts.map tR)), some vv.d, some (.shr ms.length), none, none, none] (ts.map tR) ([], [])) _ _ = _
    have d' : dcM (gT (gsC (gN 5) (gsC (gN 6) gsN))) tY (eVar 5) (eVar 6) [some (ansD ts av), some (.tup (ts.map tR)), some vv.d, some (.shr ms.length), none, none, none] (ts.map tR) ([], []) (n, ms ++ [dkD []]) = some (((gvOf ts).map fun (p : Str × U) => (Sum.inr p.1 : Key), (gvOf ts).map fun (p : Str × U) => p.2.d), n, ms ++ [dkD []]) := by
      have := d
      rw [List.nil_append] at this
      rw [← e1] at this
      exact this
    rw [Mb_eq d']
    rfl
  have st : ∀ z, bSeq (sFor (iSeq (e2 fDG (eVar 0) (eC (.int 0)))) (gT (gsC (gN 5) (gsC (gN 6) gsN))) (l1_covers F_isc))
      (sRet (vIf (trB (eCall F_isc (aCons (e2 fDG (eVar 0) (eC (.int 1))) (aCons (eVar 2) (aCons (eVar 3) aNil))))) (eItT (eVar 3)) (eC .non)))
      [some (ansD ts av), some (.tup (ts.map tR)), some vv.d, some (.shr ms.length), some (dkD (gvOf ts)), none, none] (n, ms ++ [dkD []]) = some (.ret z.1, z.2) → F_covers [ansD ts av, .tup (ts.map tR), vv.d] (n, ms) = some z := fun z hz =>
    fn_ret rfl ((bSeq_n (sSet_n (eShr_e (d := .dk [] []) (m := (n, ms)) rfl rfl))).trans ((bSeq_n (sSet_n eg)).trans hz))
  have F0 : ∀ r, fM (gT (gsC (gN 5) (gsC (gN 6) gsN))) (l1_covers F_isc) (ts.map tL) [some (ansD ts av), some (.tup (ts.map tR)), some vv.d, some (.shr ms.length), some (dkD (gvOf ts)), none, none] (n, ms ++ [dkD []]) = r →
      sFor (iSeq (e2 fDG (eVar 0) (eC (.int 0)))) (gT (gsC (gN 5) (gsC (gN 6) gsN))) (l1_covers F_isc) [some (ansD ts av), some (.tup (ts.map tR)), some vv.d, some (.shr ms.length), some (dkD (gvOf ts)), none, none] (n, ms ++ [dkD []]) = r := fun r hr =>
    (sFor_i (iSeq_e (e2_e (eVar_e rfl) rfl (z := .tup (ts.map tL)) rfl) (items_tup (by rw [List.length_map]; omega)))).trans hr
  cases hc : mtL (ts.map (·.2)) [] with
  | none =>
    obtain ⟨c, q⟩ := j2 hc
    exact ⟨fun σ h => (nomatch h), fun _ => ⟨c, st (_, _) (bSeq_r (F0 _ q))⟩⟩
  | some τ =>
    obtain ⟨y4, y5, q⟩ := j1 τ hc
    obtain ⟨hs2, hl2⟩ := mtL_ok hP s0 hc
    have hl2' : τ.length ≤ ssz (ts.map (·.2)) := by simpa using hl2
    have mv := isc_f ha hv (by decide) τ n ms hs2 (by omega)
    have C : ∀ (b : Bool) (m : Sx), F_isc [av.d, vv.d, .shr ms.length] (n, ms ++ [dkD τ]) = some (.bl b, m) → trB (eCall F_isc (aCons (e2 fDG (eVar 0) (eC (.int 1))) (aCons (eVar 2) (aCons (eVar 3) aNil)))) [some (ansD ts av), some (.tup (ts.map tR)), some vv.d, some (.shr ms.length), some (dkD (gvOf ts)), y4, y5] (n, ms ++ [dkD τ]) = some (b, m) := fun b m h =>
      trB_e (eCall_e (aCons_e (e2_e (eVar_e rfl) rfl (z := av.d) rfl) (aCons_e (eVar_e rfl) (aCons_e (eVar_e rfl) aNil_e))) h) rfl
    show (∀ σ, mt av vv τ = some σ → _) ∧ (mt av vv τ = none → _)
    refine ⟨fun σ h => ?_, fun h => ?_⟩
    · obtain ⟨hs3, _⟩ := mt_ok ha hv (by decide) hs2 h
      have I : eItT (eVar 3) [some (ansD ts av), some (.tup (ts.map tR)), some vv.d, some (.shr ms.length), some (dkD (gvOf ts)), y4, y5] (n, ms ++ [dkD σ]) = some (.tup (σ.map prU), n, ms ++ [dkD σ]) := by
        unfold eItT
        rw [Mb_eq (eVar_e (d := .shr ms.length) rfl)]
        show Mb (gS ms.length) (fun c => Mo (fItT c)) _ = _
        rw [Mb_eq get_last, fIt_e hs3]
        rfl
      exact st (_, _) ((bSeq_n (F0 _ q)).trans (sRet_r ((vIf_t (C true _ (mv.1 σ h))).trans I)))
    · obtain ⟨c, q2⟩ := mv.2 h
      exact ⟨c, st (_, _) ((bSeq_n (F0 _ q)).trans (sRet_r ((vIf_f (C false _ q2)).trans rfl)))⟩
end Sh


set_option Elab.async false
set_option linter.all false
set_option maxRecDepth 100000
namespace Sh
open PySem L2 Nf
/-! alike with itself -/
def D.sd : Nat → D → Prop
  | 0, _ => False
  | n + 1, .tup ds => ds.length ≤ 1000 ∧ ∀ d ∈ ds, D.sd n d
  | _ + 1, .str _ => True
  | _ + 1, .int _ => True
  | _ + 1, .non => True
  | _ + 1, _ => False
def F_same : Nat → List D → M D
  | 0 => fun _ _ => none
  | k + 1 => fnA 2 4 (b_same (F_same k))
theorem lc_same {k : Nat} {n : Sx} (ih : ∀ d, D.sd k d → F_same k [d, d] n = some (.bl true, n)) {a b : D} : ∀ (ds : List D), (∀ d ∈ ds, D.sd k d) →
    lcM (gT (gsC (gN 2) (gsC (gN 3) gsN))) tY (eCall (F_same k) (aCons (eVar 2) (aCons (eVar 3) aNil))) [some a, some b, none, none] (prs ds ds) n = some (ds.map fun _ => .bl true, n)
  | [], _ => rfl
  | d :: r, h => by
    have e : prs (d :: r) (d :: r) = .tup [d, d] :: prs r r := rfl
    rw [e]
    exact lcM_cons rfl (eCall_e (aCons_e (eVar_e rfl) (aCons_e (eVar_e rfl) aNil_e)) (ih d (h d (by simp)))) (lc_same ih r fun x hx => h x (by simp [hx]))
theorem bls_true : ∀ ds : List D, bls (ds.map fun _ => D.bl true) = some (ds.map fun _ => true)
  | [] => rfl
  | d :: r => by
    show (bls (r.map fun _ => D.bl true)).map (true :: ·) = _
    rw [bls_true r]; rfl
theorem all_true : ∀ ds : List D, (ds.map fun _ => true).all _root_.id = true
  | [] => rfl
  | d :: r => by rw [List.map_cons, List.all_cons, all_true r]; rfl
theorem same_refl : ∀ (k : Nat) (d : D) (n : Sx), D.sd k d → F_same k [d, d] n = some (.bl true, n)
  | 0, _, _, h => h.elim
  | k + 1, .tup ds, n, h => by
    refine fn_ret rfl ?_
    show b_same (F_same k) [some (.tup ds), some (.tup ds), none, none] n = _
    unfold b_same
    have t1 : ∀ i, ([some (D.tup ds), some (D.tup ds), none, none] : Sd)[i]? = some (some (.tup ds)) → trB (e1 (fIsi "tuple") (eVar i)) [some (.tup ds), some (.tup ds), none, none] n = some (true, n) := fun i hi => trB_e (e1_e (eVar_e hi) (y := .bl true) (by show (kitB "tuple" "tuple").map _ = _; rw [show kitB "tuple" "tuple" = some true by decide +kernel]; rfl)) rfl
    have l1 : ∀ i, ([some (D.tup ds), some (D.tup ds), none, none] : Sd)[i]? = some (some (.tup ds)) → eF (f1 fLen) (aCons (eVar i) aNil) [some (.tup ds), some (.tup ds), none, none] n = some (.int (ds.length : Nat), n) := fun i hi => eF_e (aCons_e (eVar_e hi) aNil_e) rfl
    have t2 : trB (e2 fNe (eF (f1 fLen) (aCons (eVar 0) aNil)) (eF (f1 fLen) (aCons (eVar 1) aNil))) [some (.tup ds), some (.tup ds), none, none] n = some (false, n) := trB_e (e2_e (l1 0 rfl) (l1 1 rfl) (z := .bl false) (by show some (D.bl (!decide _)) = _; simp)) rfl
    refine bSeq_r ((sIf_t (t1 1 rfl)).trans ((bSeq_n ((sIf_f ((tOr_f (tNt_e (t1 0 rfl))).trans t2)).trans rfl)).trans (sRet_r ?_)))
    refine eF_e (aCons_e (eLc_e (i2_e (eVar_e rfl) (eVar_e rfl) (zip_tup (by have := h.1; omega))) (lc_same (fun d hd => same_refl k d n hd) ds h.2)) aNil_e) ?_
    show (bls _).map _ = _
    rw [bls_true, Option.map_some, all_true]
  | k + 1, .str x, n, _ => by
    refine fn_ret rfl ?_
    show b_same (F_same k) [some (.str x), some (.str x), none, none] n = _
    unfold b_same
    have t1 : trB (e1 (fIsi "tuple") (eVar 1)) [some (.str x), some (.str x), none, none] n = some (false, n) := trB_e (e1_e (eVar_e rfl) (y := .bl false) (by show (kitB "str" "tuple").map _ = _; rw [show kitB "str" "tuple" = some false by decide +kernel]; rfl)) rfl
    have t3 : ∀ i, ([some (D.str x), some (D.str x), none, none] : Sd)[i]? = some (some (.str x)) → e1 (fIsi "str") (eVar i) [some (.str x), some (.str x), none, none] n = some (.bl true, n) := fun i hi => e1_e (eVar_e hi) (by show (kitB "str" "str").map _ = _; rw [show kitB "str" "str" = some true by decide +kernel]; rfl)
    rw [bSeq_n ((sIf_f t1).trans rfl), bSeq_n ((sIf_f (trB_e (e2_e (eVar_e rfl) rfl (z := .bl false) rfl) rfl)).trans rfl), bSeq_r ((sIf_t (trB_e (t3 1 rfl) rfl)).trans (sRet_r (d := .bl true) (m := n) ?_))]
    exact (vAn_t (t3 0 rfl) rfl).trans (e2_e (eVar_e rfl) (eVar_e rfl) (z := .bl true) (by rw [eq_str]; simp))
  | k + 1, .int x, n, _ => by
    refine fn_ret rfl ?_
    show b_same (F_same k) [some (.int x), some (.int x), none, none] n = _
    unfold b_same
    have t1 : ∀ T, kitB "int" T = some false → e1 (fIsi T) (eVar 1) [some (.int x), some (.int x), none, none] n = some (.bl false, n) := fun T hT => e1_e (eVar_e rfl) (by show (kitB "int" T).map _ = _; rw [hT]; rfl)
    have t2 : e1 (fIsi "int") (eVar 0) [some (.int x), some (.int x), none, none] n = some (.bl true, n) := e1_e (eVar_e rfl) (by show (kitB "int" "int").map _ = _; rw [show kitB "int" "int" = some true by decide +kernel]; rfl)
    have t3 : e1 (fIsi "bool") (eVar 0) [some (.int x), some (.int x), none, none] n = some (.bl false, n) := e1_e (eVar_e rfl) (by show (kitB "int" "bool").map _ = _; rw [show kitB "int" "bool" = some false by decide +kernel]; rfl)
    rw [bSeq_n ((sIf_f (trB_e (t1 "tuple" (by decide +kernel)) rfl)).trans rfl), bSeq_n ((sIf_f (trB_e (e2_e (eVar_e rfl) rfl (z := .bl false) rfl) rfl)).trans rfl), bSeq_n ((sIf_f (trB_e (t1 "str" (by decide +kernel)) rfl)).trans rfl)]
    exact sRet_r ((vAn_t t2 rfl).trans ((vAn_t (e1_e t3 (y := .bl true) rfl) rfl).trans (e2_e (eVar_e rfl) (eVar_e rfl) (z := .bl true) (by rw [eq_int]; simp))))
  | k + 1, .non, n, _ => by
    refine fn_ret rfl ?_
    show b_same (F_same k) [some .non, some .non, none, none] n = _
    unfold b_same
    have t1 : trB (e1 (fIsi "tuple") (eVar 1)) [some .non, some .non, none, none] n = some (false, n) := trB_e (e1_e (eVar_e rfl) (y := .bl false) (by show (kitB "NoneType" "tuple").map _ = _; rw [show kitB "NoneType" "tuple" = some false by decide +kernel]; rfl)) rfl
    rw [bSeq_n ((sIf_f t1).trans rfl), bSeq_r ((sIf_t (trB_e (e2_e (eVar_e rfl) rfl (z := .bl true) rfl) rfl)).trans (sRet_r (e2_e (eVar_e rfl) rfl (z := .bl true) rfl)))]
  | k + 1, .bl _, _, h => h.elim
  | k + 1, .lst _, _, h => h.elim
  | k + 1, .dk _ _, _, h => h.elim
  | k + 1, .ins _ _ _, _, h => h.elim
  | k + 1, .deck, _, h => h.elim
  | k + 1, .shr _, _, h => h.elim

theorem U.sd : ∀ {n : Nat} {u : U}, U.ok n u → D.sd (2 * n) u.d
  | 0, _, h => h.elim
  | n + 1, .name x, _ => by
    rw [U.d_name]
    show _ ≤ 1000 ∧ _
    refine ⟨by simp, fun d hd => ?_⟩
    simp only [List.mem_cons, List.not_mem_nil, or_false] at hd
    rcases hd with rfl | rfl <;> exact True.intro
  | n + 1, .skip, _ => by
    rw [U.d_skip]
    show _ ≤ 1000 ∧ _
    refine ⟨by simp, fun d hd => ?_⟩
    simp only [List.mem_cons, List.not_mem_nil, or_false] at hd
    rw [hd]; exact True.intro
  | n + 1, .made w ps, h => by
    rw [U.d_made]
    show _ ≤ 1000 ∧ _
    refine ⟨by simp, fun d hd => ?_⟩
    simp only [List.mem_cons, List.not_mem_nil, or_false] at hd
    rcases hd with rfl | rfl | rfl
    · exact True.intro
    · exact True.intro
    · refine ⟨by have := h.2.1; rw [List.length_map]; omega, fun d hd => ?_⟩
      obtain ⟨u, hu, rfl⟩ := List.mem_map.mp hd
      exact U.sd (h.2.2 u hu)
theorem dres_sd {σ : As} (h : SOk σ) (hl : σ.length ≤ 1000) : D.sd 26 (.tup (σ.map prU)) := by
  refine ⟨by rw [List.length_map]; exact hl, fun d hd => ?_⟩
  obtain ⟨p, hp, rfl⟩ := List.mem_map.mp hd
  refine ⟨by simp, fun d hd => ?_⟩
  simp only [List.mem_cons, List.not_mem_nil, or_false] at hd
  rcases hd with rfl | rfl
  · exact True.intro
  · exact U.sd (h p hp).1.ok
end Sh


set_option Elab.async false
set_option linter.all false
set_option maxRecDepth 100000
namespace Sh
open PySem L2 Nf
/-! one turn of the law -/
theorem zip3 : ∀ {xs : List Str} {us gs : List U}, us.length = xs.length → gs.length = xs.length → (xs.zip (us.zip gs)).map tL = (xs.zip us).map prU ∧ (xs.zip (us.zip gs)).map tR = (xs.zip gs).map prU ∧ (xs.zip (us.zip gs)).map (·.2) = us.zip gs ∧ (xs.zip (us.zip gs)).map Prod.fst = xs
  | [], [], [], _, _ => ⟨rfl, rfl, rfl, rfl⟩
  | x :: xs, u :: us, g :: gs, h1, h2 => by
    obtain ⟨a, b, c, d⟩ := zip3 (xs := xs) (us := us) (gs := gs) (by simpa using h1) (by simpa using h2)
    simp only [List.zip_cons_cons, List.map_cons]
    refine ⟨by rw [a]; rfl, by rw [b]; rfl, by rw [c], by rw [d]⟩
  | [], _ :: _, _, h, _ => by simp at h
  | [], [], _ :: _, _, h => by simp at h
  | _ :: _, [], _, h, _ => by simp at h
  | _ :: _, _ :: _, [], _, h => by simp at h
def ansF (xs : List Str) (us : List U) (av : U) : D := .tup [.tup ((xs.zip us).map prU), av.d, .tup [.str "skip"], .int 0, .tup []]
abbrev RL (x0 : Option D) (KS NS : D) (kd : Str) (FL AN : D) (x8 x9 x10 x11 x12 x13 x14 x15 x16 x17 x18 : Option D) : Sd := [x0, some .deck, some KS, some NS, some (.str kd), some (.shr 0), some FL, some AN, x8, x9, x10, x11, x12, x13, x14, x15, x16, x17, x18]
def GT (ks : List Kd) (qs : List (Str × Str)) (e : Nat) (gs : List U) : Prop := gs.length = qs.length ∧ ∀ (i : Nat) (q : Str × Str) (g : U), qs[i]? = some q → gs[i]? = some g → Ty ks e q.2 g
theorem GT.mono {ks : List Kd} {qs : List (Str × Str)} {e e' : Nat} {gs : List U} (h : GT ks qs e gs) (he : e ≤ e') : GT ks qs e' gs := ⟨h.1, fun i q g h1 h2 => (h.2 i q g h1 h2).mono he⟩
theorem ixN_nat {n j : Nat} (h : j < n) : L2.ixN n (j : Int) = some j := by
  unfold L2.ixN
  rw [if_pos (by omega), if_pos (by omega)]
  congr 1
section
variable {f : Nat → Int} (hf : ∀ n, 0 ≤ f n ∧ f n < 1000)
include hf
theorem row_f {ks : List Kd} (hks : KsOk ks) {cs : List Str} (hc : cs.length ≤ 60) {x0 x8 x10 x11 x12 x13 x14 x15 x16 x17 x18 : Option D} {NS FL AN : D} {kd : Str} {w : Int} {n : Nat} {J : List D} (hn : n + 800 ≤ 2 ^ 40) :
    ∃ rows m, eLc (i1 fR1 (e1S fLenD (eVar 5))) (gN 13) tY (eTup (aCons (eF (f1 fStr) (aCons (e2 fAdd (eVar 13) (eC (.int 1))) aNil)) (aCons (eCall (F_plain f 3) (aCons (eVar 1) (aCons (eVar 2) (aCons (e2S fDG (eVar 5) (eVar 13)) (aCons (e2 fMod (e2 fDiv (eVar 9) (eC (.int 8))) (eC (.int 3))) aNil))))) aNil))) [13]
      (RL x0 (.tup (ks.map Kd.d)) NS kd FL AN x8 (some (.int w)) x10 x11 x12 x13 x14 x15 x16 x17 x18) (n, kn cs :: J) = some (.lst (rows.map prU), m, kn cs :: J) ∧ m ≤ n + 780 ∧ rows.length = cs.length ∧ ∀ (i : Nat) (k : Str), cs[i]? = some k → ∃ v, lk rows (nmS i) = some v ∧ Ty ks 3 k v := by
  have h3 := mod_range (k := w / 8) (m := 3) (by decide)
  obtain ⟨far, hfar⟩ : ∃ j : Nat, w / 8 % 3 = (j : Nat) := ⟨(w / 8 % 3).toNat, by omega⟩
  have hs : sc far ≤ 13 := by
    have : far = 0 ∨ far = 1 ∨ far = 2 := by omega
    rcases this with rfl | rfl | rfl <;> decide
  obtain ⟨ys, m, ms2, e3, hm, hly, rfl, rows, rfl, hq⟩ := Ds.lcI (g := gN 13) (te := eTup (aCons (eF (f1 fStr) (aCons (e2 fAdd (eVar 13) (eC (.int 1))) aNil)) (aCons (eCall (F_plain f 3) (aCons (eVar 1) (aCons (eVar 2) (aCons (e2S fDG (eVar 5) (eVar 13)) (aCons (e2 fMod (e2 fDiv (eVar 9) (eC (.int 8))) (eC (.int 3))) aNil))))) aNil)))
    (ρ := RL x0 (.tup (ks.map Kd.d)) NS kd FL AN x8 (some (.int w)) x10 x11 x12 none x14 x15 x16 x17 x18) (f := fun (j : Nat) => D.int (0 + j)) (c := 13) (fun ys ms => ms = kn cs :: J ∧ ∃ rows : As, ys = rows.map prU ∧ ∀ (i : Nat) (q : Str × U), rows[i]? = some q → q.1 = nmS i ∧ ∀ k, cs[i]? = some k → Ty ks 3 k q.2) (List.range cs.length) [] (by
      intro i x hx ys hl
      have hik : i < cs.length ∧ x = i := by
        have := (List.getElem?_eq_some_iff.mp hx).1
        rw [List.length_range] at this
        rw [List.getElem?_range this] at hx
        exact ⟨this, (Option.some.inj hx).symm⟩
      obtain ⟨hik, rfl⟩ := hik
      refine ⟨RL x0 (.tup (ks.map Kd.d)) NS kd FL AN x8 (some (.int w)) x10 x11 x12 (some (.int (0 + (x : Int)))) x14 x15 x16 x17 x18, rfl, fun n' ms' hp hn' => ?_⟩
      obtain ⟨rfl, rows, rfl, hq⟩ := hp
      obtain ⟨kd', ekd, _, gkd⟩ := ix_lst (f := D.str) (xs := cs) (i := 0 + (x : Int)) (by omega) (by omega)
      rw [show (0 + (x : Int)).toNat = x by omega] at gkd
      obtain ⟨u, m, eu, hm, hu⟩ := plain_f hf hks 3 far kd' n' (kn cs :: J) (by omega) (by omega)
      refine ⟨prU (nmS x, u), m, kn cs :: J, eTup_e (aCons_e (eF_e (aCons_e (e2_e (eVar_e rfl) rfl (z := .int ((x : Int) + 1)) (by show some (D.int (0 + (x : Int) + 1)) = _; rw [Int.zero_add])) aNil_e) (fStr_nm (by omega))) (aCons_e (eCall_e (aCons_e (eVar_e rfl) (aCons_e (eVar_e rfl) (aCons_e (e2S_e (eVar_e rfl) (eVar_e rfl) (shC_shr (c := kn cs) rfl) ekd) (aCons_e (e2_e (e2_e (eVar_e rfl) rfl (div_i ⟨by decide, by decide⟩)) rfl (z := .int (far : Nat)) (by rw [mod_i (by decide), hfar])) aNil_e)))) eu) aNil_e)), by omega, rfl, rows ++ [(nmS x, u)], by rw [List.map_append]; rfl, fun i q hi => ?_⟩
      have hrl : rows.length = x := by simpa using hl
      by_cases hlt : i < rows.length
      · rw [List.getElem?_append_left hlt] at hi; exact hq i q hi
      · rw [List.getElem?_append_right (by omega)] at hi
        have h0 : i - rows.length = 0 := by
          have := (List.getElem?_eq_some_iff.mp hi).1
          simp at this; omega
        rw [h0] at hi
        cases hi
        have hix : i = x := by omega
        subst hix
        refine ⟨rfl, fun k hk => ?_⟩
        rw [hk] at gkd; cases gkd
        exact hu.mono (by omega)) n (kn cs :: J) ⟨rfl, [], rfl, fun i q h => by simp at h⟩ (by rw [List.length_range]; omega)
  rw [List.length_map, List.length_range] at hly
  rw [List.length_range] at hm
  have hN : Ns cs.length rows := by
    unfold Ns
    apply List.ext_getElem?
    intro i
    rw [List.getElem?_map, List.getElem?_map]
    by_cases hi : i < cs.length
    · rw [List.getElem?_range hi, List.getElem?_eq_getElem (show i < rows.length by omega)]
      show some _ = some _
      rw [(hq i rows[i] (List.getElem?_eq_getElem (by omega))).1]
    · rw [List.getElem?_eq_none (by omega), List.getElem?_eq_none (by rw [List.length_range]; omega)]; rfl
  refine ⟨rows, m, eLc_e (i1_e (e1S_e (eVar_e rfl) (shC_shr (c := kn cs) rfl) (z := .int (cs.length : Nat)) (by show some (D.int _) = _; rw [List.length_map])) (r1_e (by omega))) ?_, by omega, hly, fun i k hk => ?_⟩
  · show lcM _ _ _ (RL x0 (.tup (ks.map Kd.d)) NS kd FL AN x8 (some (.int w)) x10 x11 x12 none x14 x15 x16 x17 x18) (rngD 0 ((cs.length : Nat) : Int).toNat) _ = _
    unfold rngD
    rw [show ((cs.length : Nat) : Int).toNat = cs.length by omega]
    exact e3
  · have hil := (List.getElem?_eq_some_iff.mp hk).1
    have hg := List.getElem?_eq_getElem (show i < rows.length by omega)
    obtain ⟨_, e2⟩ := hN.at (by omega) hg
    exact ⟨_, e2, (hq i _ hg).2 k hk⟩
end
end Sh


set_option Elab.async false
set_option linter.all false
set_option maxRecDepth 100000
namespace Sh
open PySem L2 Nf
theorem Pt.ok : ∀ {n : Nat} {u : U}, Pt n u → U.ok n u
  | 0, .made _ _, h => h.elim
  | 0, .name _, h => h.elim
  | 0, .skip, h => h.elim
  | n + 1, .name _, h => h.1
  | n + 1, .skip, h => h.elim
  | n + 1, .made w us, h => ⟨h.1, h.2.1, fun u hu => (h.2.2 u hu).ok⟩
theorem Pt.mono : ∀ {n m : Nat} {u : U}, n ≤ m → Pt n u → Pt m u
  | 0, _, .made _ _, _, h => h.elim
  | 0, _, .name _, _, h => h.elim
  | 0, _, .skip, _, h => h.elim
  | n + 1, 0, _, hn, _ => by omega
  | n + 1, m + 1, .name _, _, h => h
  | n + 1, m + 1, .skip, _, h => h.elim
  | n + 1, m + 1, .made w us, hn, h => ⟨h.1, h.2.1, fun u hu => (h.2.2 u hu).mono (by omega)⟩
theorem pt_sz {u : U} (h : Pt 3 u) : u.sz ≤ 64 := Nat.le_trans (U.sz_le h.ok) (by decide)
theorem res_flat (σ : As) : D.flat (.tup (σ.map prU)) = true := by
  show D.flatA (σ.map prU) = true
  induction σ with
  | nil => rfl
  | cons p r ih =>
    rw [List.map_cons]
    show (D.flat (.tup [.str p.1, p.2.d]) && _) = true
    simp only [D.flat, D.flatA, U.flat, ih, Bool.and_self]
/-- what stands before the law's turns -/
structure LawC (ks : List Kd) (qs : List (Str × Str)) (us : List U) (cs : List Str) (kd : Str) (av : U) : Prop where
  hks : KsOk ks
  hqs : AsOk ks qs
  lu : us.length = qs.length
  hop : OpL (Op ks 3) (qs.map Prod.snd) [] us cs
  hav : TyV ks cs 3 kd av
  hc : cs.length ≤ 60
  hk : ∃ q, qs[0]? = some q ∧ q.2 = kd
section
variable {ks : List Kd} {qs : List (Str × Str)} {us : List U} {cs : List Str} {kd : Str} {av : U}
theorem LawC.ty (L : LawC ks qs us cs kd av) {i : Nat} {q : Str × Str} {u : U} (h1 : qs[i]? = some q) (h2 : us[i]? = some u) : TyV ks cs 3 q.2 u := by
  obtain ⟨_, h⟩ := L.hop.at
  obtain ⟨c1, c2, ds, o, rfl⟩ := h i q.2 u (by rw [List.getElem?_map, h1]; rfl) h2
  exact o.ty.more
theorem LawC.nd (L : LawC ks qs us cs kd av) : (qs.map Prod.fst).Nodup := by
  have e : qs.map Prod.fst = n4.take qs.length := by
    apply List.ext_getElem?
    intro i
    rw [List.getElem?_map]
    by_cases hi : i < qs.length
    · rw [List.getElem?_eq_getElem hi, List.getElem?_take_of_lt hi]
      exact (L.hqs.2.2 i _ (List.getElem?_eq_getElem hi)).symm
    · rw [List.getElem?_eq_none (by omega), List.getElem?_eq_none (by rw [List.length_take]; omega)]; rfl
  rw [e]
  have : n4.Nodup := by decide +kernel
  exact this.sublist (List.take_sublist _ _)
/-- the end of a turn -/
theorem ending (L : LawC ks qs us cs kd av) {gs : List U} {vv : U} (hg : GT ks qs 8 gs) (hv : Ty ks 8 kd vv) {x0 x8 x9 x10 x13 x14 x15 x16 x17 x18 : Option D} {KS NS FL : D} {n : Nat} {J : List D} :
    ∃ y14 y15 J', bSeq (sSet 14 (eFl (eCall F_due (aCons (eVar 7) (aCons (eVar 11) (aCons (eVar 12) aNil)))))) (sFor (i1 fR1 (eC (.int 2))) (gN 15) (l1_law (F_same 26) F_covers))
      (RL x0 KS NS kd FL (ansF (qs.map Prod.fst) us av) x8 x9 x10 (some (.lst (((qs.map Prod.fst).zip gs).map prU))) (some vv.d) x13 x14 x15 x16 x17 x18) (n, kn cs :: J) =
      some (.next (RL x0 KS NS kd FL (ansF (qs.map Prod.fst) us av) x8 x9 x10 (some (.lst (((qs.map Prod.fst).zip gs).map prU))) (some vv.d) x13 y14 y15 x16 x17 x18), n, kn cs :: J') := by
  have hl1 : us.length = (qs.map Prod.fst).length := by rw [List.length_map]; exact L.lu
  have hl2 : gs.length = (qs.map Prod.fst).length := by rw [List.length_map]; exact hg.1
  obtain ⟨z1, z2, z3, z4⟩ := zip3 hl1 hl2
  generalize hts : (qs.map Prod.fst).zip (us.zip gs) = ts at z1 z2 z3 z4
  have hq4 := L.hqs.2.1
  have hlt : ts.length ≤ 4 := by rw [← List.length_map (f := Prod.fst), z4, List.length_map]; exact hq4
  have hmem : ∀ t ∈ ts, ∃ i q, qs[i]? = some q ∧ us[i]? = some t.2.1 ∧ gs[i]? = some t.2.2 := fun t ht => by
    obtain ⟨i, hi⟩ := List.mem_iff_getElem?.mp ht
    rw [← hts, List.getElem?_zip_eq_some] at hi
    obtain ⟨h1, h2⟩ := hi
    rw [List.getElem?_zip_eq_some] at h2
    rw [List.getElem?_map] at h1
    obtain ⟨q, hq, _⟩ := Option.map_eq_some_iff.mp h1
    exact ⟨i, q, hq, h2.1, h2.2⟩
  have hP : Chk ts := fun t ht => by
    obtain ⟨i, q, h1, h2, h3⟩ := hmem t ht
    exact ⟨((L.ty h1 h2).pt L.hks (by have := L.hc; omega)).mono (by decide), ((hg.2 i q _ h1 h3).pl L.hks).mono (by decide)⟩
  have ha3 : Pt 3 av := L.hav.pt L.hks (by have := L.hc; omega)
  have ha : Pt 12 av := ha3.mono (by decide)
  have hvp : Pl 12 vv := (hv.pl L.hks).mono (by decide)
  have hsz : ssz (ts.map (·.2)) ≤ ts.length * 64 := by
    have key : ∀ l : List Tr3, (∀ t ∈ l, t.2.1.sz ≤ 64) → ssz (l.map (·.2)) ≤ l.length * 64 := by
      intro l
      induction l with
      | nil => intro _; simp [ssz]
      | cons t r ih =>
        intro h
        rw [List.map_cons, ssz_cons, List.length_cons, Nat.succ_mul]
        have := ih fun t ht => h t (by simp [ht])
        have := h t (by simp)
        omega
    exact key ts fun t ht => by
      obtain ⟨i, q, h1, h2, h3⟩ := hmem t ht
      exact pt_sz ((L.ty h1 h2).pt L.hks (by have := L.hc; omega))
  have hsa := pt_sz ha3
  have hb : ssz (ts.map (·.2)) + av.sz ≤ 1000 := by omega
  have eA : ansF (qs.map Prod.fst) us av = ansD ts av := by unfold ansF ansD; rw [z1]
  have eG : ((qs.map Prod.fst).zip gs).map prU = ts.map tR := z2.symm
  rw [eA, eG]
  have DUE := fun n ms => due_f (ts := ts) (av := av) (vv := vv) (n := n) (ms := ms) hP ha hvp hb hlt
  have COV := fun n ms => covers_f (ts := ts) (av := av) (vv := vv) (n := n) (ms := ms) hP (by rw [z4]; exact L.nd) ha hvp hb hlt
  -- the answer of both
  obtain ⟨r, hfl, hsd, hdue, hcov⟩ : ∃ r : D, D.flat r = true ∧ D.sd 26 r ∧ (∀ n ms, ∃ c, F_due [ansD ts av, .lst (ts.map tR), vv.d] (n, ms) = some (r, n, ms ++ [c])) ∧ ∀ n ms, ∃ c, F_covers [ansD ts av, .tup (ts.map tR), vv.d] (n, ms) = some (r, n, ms ++ [c]) := by
    cases hch : (mtL (ts.map (·.2)) []).bind (mt av vv) with
    | none => exact ⟨.non, rfl, True.intro, fun n ms => (DUE n ms).2 hch, fun n ms => (COV n ms).2 hch⟩
    | some σ =>
      obtain ⟨τ, e1, e2⟩ := Option.bind_eq_some_iff.mp hch
      have hN1 : Ns cs.length τ := by
        rw [z3, ← mtA_zip] at e1
        exact L.hop.ns (by rw [hl1, hl2]) (by have := L.hc; omega) (show Ns ([] : List Str).length [] from rfl) e1
      have hστ := L.hav.ns hN1 e2
      subst hστ
      obtain ⟨s1, _⟩ := mtL_ok hP (show SOk [] from fun q hq => nomatch hq) e1
      have hl : σ.length = cs.length := by have := congrArg List.length hN1; simpa using this
      exact ⟨.tup (σ.map prU), res_flat σ, dres_sd s1 (by have := L.hc; omega), fun n ms => ⟨_, (DUE n ms).1 σ cs.length hch hN1 (by have := L.hc; omega)⟩, fun n ms => ⟨_, (COV n ms).1 σ hch⟩⟩
  obtain ⟨c, hd⟩ := hdue n (kn cs :: J)
  obtain ⟨ρ', m', h1, y15, J', rfl, rfl⟩ := fM_inv (g := gN 15) (b := l1_law (F_same 26) F_covers) (fun i ρ m => ∃ (y15 : Option D) (J' : List D), ρ = RL x0 KS NS kd FL (ansD ts av) x8 x9 x10 (some (.lst (ts.map tR))) (some vv.d) x13 (some r) y15 x16 x17 x18 ∧ m = (n, kn cs :: J')) (rngD 0 2) 0
    (RL x0 KS NS kd FL (ansD ts av) x8 x9 x10 (some (.lst (ts.map tR))) (some vv.d) x13 (some r) x15 x16 x17 x18) (n, kn cs :: (J ++ [c])) ⟨x15, J ++ [c], rfl, rfl⟩ (by
      rintro j d ρ m hj ⟨y15, J', rfl, rfl⟩
      obtain ⟨c2, hc2⟩ := hcov n (kn cs :: J')
      refine ⟨_, _, _, rfl, ?_, some d, J' ++ [c2], rfl, rfl⟩
      have E : eCall F_covers (aCons (eVar 7) (aCons (eF (f1 fTupD) (aCons (eVar 11) aNil)) (aCons (eVar 12) aNil))) (RL x0 KS NS kd FL (ansD ts av) x8 x9 x10 (some (.lst (ts.map tR))) (some vv.d) x13 (some r) (some d) x16 x17 x18) (n, kn cs :: J') = some (r, n, kn cs :: (J' ++ [c2])) :=
        eCall_e (aCons_e (eVar_e rfl) (aCons_e (eF_e (aCons_e (eVar_e rfl) aNil_e) rfl) (aCons_e (eVar_e rfl) aNil_e))) hc2
      exact (sIf_f (tNt_e (b := true) (trB_e (x := .bl true) (eCall_e (aCons_e E (aCons_e (eVar_e rfl) aNil_e)) (same_refl 26 r _ hsd)) rfl))).trans rfl)
  refine ⟨some r, y15, J', ?_⟩
  refine (bSeq_n (sSet_n (eFl_e (eCall_e (aCons_e (eVar_e rfl) (aCons_e (eVar_e rfl) (aCons_e (eVar_e rfl) aNil_e))) hd) hfl))).trans ?_
  exact (sFor_i (i1_e (x := .int 2) rfl (r1_e (by decide)))).trans h1
end
end Sh


set_option Elab.async false
set_option linter.all false
set_option maxRecDepth 100000
namespace Sh
open PySem L2 Nf
theorem zip_sb (rs : As) : ∀ (xs : List Str) (us : List U), (xs.zip us).map (fun p => prU (p.1, sb rs p.2)) = (xs.zip (us.map (sb rs))).map prU
  | [], _ => rfl
  | _ :: _, [] => rfl
  | x :: xs, u :: us => by
    simp only [List.zip_cons_cons, List.map_cons]
    rw [zip_sb rs xs us]
theorem zip_set : ∀ {xs : List Str} {gs : List U} {j : Nat} {x : Str} {v : U}, xs[j]? = some x → gs.length = xs.length → ((xs.zip gs).map prU).set j (prU (x, v)) = (xs.zip (gs.set j v)).map prU
  | x :: xs, g :: gs, 0, y, v, h, hl => by
    simp at h
    subst h
    rfl
  | x :: xs, g :: gs, j + 1, y, v, h, hl => by
    simp only [List.zip_cons_cons, List.map_cons, List.set_cons_succ]
    rw [zip_set (by simpa using h) (by simpa using hl)]
  | [], _, j, y, v, h, hl => by simp at h
  | _ :: _, [], j, y, v, h, hl => by simp at hl
theorem pl_zip (qs : List (Str × Str)) : ∀ us : List U, us.length = qs.length → ((qs.map Prod.fst).zip us).length = qs.length := fun us h => by
  rw [List.length_zip, List.length_map]; omega
section
variable {f : Nat → Int} (hf : ∀ n, 0 ≤ f n ∧ f n < 1000)
include hf
theorem turn_ok {ks : List Kd} {qs : List (Str × Str)} {us : List U} {cs : List Str} {kd : Str} {av : U} (L : LawC ks qs us cs kd av) {x0 x8 x9 x10 x11 x12 x13 x14 x15 x16 x17 x18 : Option D} {n : Nat} {J : List D} (hn : n + 1000 ≤ 2 ^ 40) :
    ∃ (y9 y10 y11 y12 y13 y14 y15 : Option D) (m : Nat) (J' : List D), l2_law (nxS f) (F_plain f 3) (F_filled 3) (F_oth f 6) F_due (F_same 26) F_covers
      (RL x0 (.tup (ks.map Kd.d)) (.tup (qs.map pr2)) kd (.tup (((qs.map Prod.fst).zip us).map prU)) (ansF (qs.map Prod.fst) us av) x8 x9 x10 x11 x12 x13 x14 x15 x16 x17 x18) (n, kn cs :: J) =
      some (.next (RL x0 (.tup (ks.map Kd.d)) (.tup (qs.map pr2)) kd (.tup (((qs.map Prod.fst).zip us).map prU)) (ansF (qs.map Prod.fst) us av) x8 y9 y10 y11 y12 y13 y14 y15 x16 x17 x18), m, kn cs :: J') ∧ m ≤ n + 1000 := by
  have h1 := hf n
  have hq4 := L.hqs.2.1
  have hq0 := L.hqs.1
  obtain ⟨rows, m1, er, hm1, hrl, hrt⟩ := row_f hf L.hks (by have := L.hc; omega) (x0 := x0) (x8 := x8) (x10 := x10) (x11 := x11) (x12 := x12) (x13 := x13) (x14 := x14) (x15 := x15) (x16 := x16) (x17 := x17) (x18 := x18) (NS := .tup (qs.map pr2)) (FL := .tup (((qs.map Prod.fst).zip us).map prU)) (AN := ansF (qs.map Prod.fst) us av) (kd := kd) (w := f n) (n := n + 1) (J := J) (by omega)
  have hrl' : rows.length ≤ 1000 := by have := L.hc; omega
  have lu := L.lu
  -- what is given
  have G0 := lcM_map (g := gT (gsC (gN 16) (gsC (gN 17) gsN))) (te := eTup (aCons (eVar 16) (aCons (eCall (F_filled 3) (aCons (eVar 17) (aCons (eVar 10) aNil))) aNil))) (ρ := RL x0 (.tup (ks.map Kd.d)) (.tup (qs.map pr2)) kd (.tup (((qs.map Prod.fst).zip us).map prU)) (ansF (qs.map Prod.fst) us av) x8 (some (.int (f n))) (some (.lst (rows.map prU))) x11 x12 x13 x14 x15 none none x18) (n := (m1, kn cs :: J)) (f := prU) (h := fun p => prU (p.1, sb rows p.2)) ((qs.map Prod.fst).zip us) fun p hp => by
    obtain ⟨i, hi⟩ := List.mem_iff_getElem?.mp hp
    rw [List.getElem?_zip_eq_some] at hi
    obtain ⟨h1, h2⟩ := hi
    rw [List.getElem?_map] at h1
    obtain ⟨q, hq, _⟩ := Option.map_eq_some_iff.mp h1
    exact ⟨RL x0 (.tup (ks.map Kd.d)) (.tup (qs.map pr2)) kd (.tup (((qs.map Prod.fst).zip us).map prU)) (ansF (qs.map Prod.fst) us av) x8 (some (.int (f n))) (some (.lst (rows.map prU))) x11 x12 x13 x14 x15 (some (.str p.1)) (some p.2.d) x18, rfl, eTup_e (aCons_e (eVar_e rfl) (aCons_e (eCall_e (aCons_e (eVar_e rfl) (aCons_e (eVar_e rfl) aNil_e)) (filled_f L.hks hrl' 3 3 q.2 p.2 (L.ty hq h2) (by decide))) aNil_e))⟩
  rw [zip_sb] at G0
  have T0 : GT ks qs 6 (us.map (sb rows)) := ⟨by rw [List.length_map]; exact L.lu, fun i q g e1 e2 => by
    rw [List.getElem?_map] at e2
    obtain ⟨u, hu, rfl⟩ := Option.map_eq_some_iff.mp e2
    exact sb_ty hrt (L.ty e1 hu)⟩
  have V0 : Ty ks 6 kd (sb rows av) := sb_ty hrt L.hav
  have hql : (0 : Int) < (qs.length : Int) := by omega
  have hrq := mod_range (k := f n / 24) hql
  obtain ⟨j, hj⟩ : ∃ j : Nat, f n / 24 % (qs.length : Int) = (j : Nat) := ⟨(f n / 24 % (qs.length : Int)).toNat, by omega⟩
  have hjl : j < qs.length := by omega
  generalize hKS : D.tup (ks.map Kd.d) = KS at er G0
  generalize hNS : D.tup (qs.map pr2) = NS at er G0
  generalize hFL : D.tup (((qs.map Prod.fst).zip us).map prU) = FL at er G0
  have start : ∀ t : Bd, bSeq (sSet 9 (eCall (nxS f) (aCons (eVar 1) aNil)))
      (bSeq (sSet 10 (eLc (i1 fR1 (e1S fLenD (eVar 5))) (gN 13) tY (eTup (aCons (eF (f1 fStr) (aCons (e2 fAdd (eVar 13) (eC (.int 1))) aNil)) (aCons (eCall (F_plain f 3) (aCons (eVar 1) (aCons (eVar 2) (aCons (e2S fDG (eVar 5) (eVar 13)) (aCons (e2 fMod (e2 fDiv (eVar 9) (eC (.int 8))) (eC (.int 3))) aNil))))) aNil))) [13]))
      (bSeq (sSet 11 (eLc (iSeq (eVar 6)) (gT (gsC (gN 16) (gsC (gN 17) gsN))) tY (eTup (aCons (eVar 16) (aCons (eCall (F_filled 3) (aCons (eVar 17) (aCons (eVar 10) aNil))) aNil))) [16, 17]))
      (bSeq (sSet 12 (eCall (F_filled 3) (aCons (e2 fDG (eVar 7) (eC (.int 1))) (aCons (eVar 10) aNil))))
      (bSeq (sSet 13 (e2 fMod (e2 fDiv (eVar 9) (eC (.int 24))) (eF (f1 fLen) (aCons (eVar 3) aNil)))) t))))
      (RL x0 KS NS kd FL (ansF (qs.map Prod.fst) us av) x8 x9 x10 x11 x12 x13 x14 x15 x16 x17 x18) (n, kn cs :: J) =
      t (RL x0 KS NS kd FL (ansF (qs.map Prod.fst) us av) x8 (some (.int (f n))) (some (.lst (rows.map prU))) (some (.lst (((qs.map Prod.fst).zip (us.map (sb rows))).map prU))) (some (sb rows av).d) (some (.int (j : Nat))) x14 x15 x16 x17 x18) (m1, kn cs :: J) := fun t => by
    refine (bSeq_n (sSet_n (eCall_e (aCons_e (eVar_e rfl) aNil_e) (nx_e (by omega))))).trans ((bSeq_n (sSet_n er)).trans ?_)
    refine (bSeq_n (sSet_n (eLc_e (iSeq_e (eVar_e (d := FL) rfl) (by rw [← hFL]; exact items_tup (by rw [List.length_map, pl_zip qs us lu]; omega))) G0))).trans ?_
    refine (bSeq_n (sSet_n (eCall_e (aCons_e (e2_e (eVar_e rfl) rfl (z := av.d) rfl) (aCons_e (eVar_e rfl) aNil_e)) (filled_f L.hks hrl' 3 3 kd av L.hav (by decide))))).trans ?_
    exact bSeq_n (sSet_n (e2_e (e2_e (eVar_e rfl) rfl (div_i ⟨by decide, by decide⟩)) (eF_e (aCons_e (eVar_e (d := NS) rfl) aNil_e) (d := .int (qs.length : Nat)) (by rw [← hNS]; show some (D.int _) = _; rw [List.length_map])) (by rw [mod_i hql, hj])))
  -- the first bend
  obtain ⟨qj, hqj⟩ : ∃ q, qs[j]? = some q := ⟨qs[j], List.getElem?_eq_getElem hjl⟩
  have m4 : ∀ (c : Int) (x11 x12 : Option D) (m : Nat), trB (e2 fEq (e2 fMod (eVar 9) (eC (.int 4))) (eC (.int c))) (RL x0 KS NS kd FL (ansF (qs.map Prod.fst) us av) x8 (some (.int (f n))) (some (.lst (rows.map prU))) x11 x12 (some (.int (j : Nat))) x14 x15 x16 x17 x18) (m, kn cs :: J) = some (decide (f n % 4 = c), m, kn cs :: J) := fun c x11 x12 m => trB_e (e2_e (e2_e (eVar_e rfl) rfl (mod_i (by decide))) rfl eq_int) rfl
  have m8 : ∀ (x11 x12 : Option D) (m : Nat), trB (e2 fEq (e2 fMod (eVar 9) (eC (.int 8))) (eC (.int 3))) (RL x0 KS NS kd FL (ansF (qs.map Prod.fst) us av) x8 (some (.int (f n))) (some (.lst (rows.map prU))) x11 x12 (some (.int (j : Nat))) x14 x15 x16 x17 x18) (m, kn cs :: J) = some (decide (f n % 8 = 3), m, kn cs :: J) := fun x11 x12 m => trB_e (e2_e (e2_e (eVar_e rfl) rfl (mod_i (by decide))) rfl eq_int) rfl
  have ixq : ∀ (x11 x12 : Option D) (m : Sx), e2 fDG (eVar 3) (eVar 13) (RL x0 KS NS kd FL (ansF (qs.map Prod.fst) us av) x8 (some (.int (f n))) (some (.lst (rows.map prU))) x11 x12 (some (.int (j : Nat))) x14 x15 x16 x17 x18) m = some (pr2 qj, m) := fun x11 x12 m => by
    obtain ⟨q, eq1, _, gq⟩ := ix_tup' (f := pr2) (xs := qs) (i := (j : Nat)) (by omega) (by omega)
    rw [show ((j : Nat) : Int).toNat = j by omega, hqj] at gq
    cases gq
    exact e2_e (eVar_e (d := NS) rfl) (eVar_e rfl) (by rw [← hNS]; exact eq1)
  obtain ⟨gs1, m2, T1, hm2, w1⟩ : ∃ (gs1 : List U) (m2 : Nat), GT ks qs 8 gs1 ∧ m2 ≤ m1 + 10 ∧ sIf (trB (e2 fEq (e2 fMod (eVar 9) (eC (.int 4))) (eC (.int 1)))) (sPutL 11 (eVar 13) (eFl (eTup (aCons (e2 fDG (e2 fDG (eVar 3) (eVar 13)) (eC (.int 0))) (aCons (eCall (F_oth f 6) (aCons (eVar 1) (aCons (eVar 2) (aCons (e2 fDG (e2 fDG (eVar 11) (eVar 13)) (eC (.int 1))) (aCons (e2 fDG (e2 fDG (eVar 3) (eVar 13)) (eC (.int 1))) aNil))))) aNil))))) bNil
      (RL x0 KS NS kd FL (ansF (qs.map Prod.fst) us av) x8 (some (.int (f n))) (some (.lst (rows.map prU))) (some (.lst (((qs.map Prod.fst).zip (us.map (sb rows))).map prU))) (some (sb rows av).d) (some (.int (j : Nat))) x14 x15 x16 x17 x18) (m1, kn cs :: J) =
      some (.next (RL x0 KS NS kd FL (ansF (qs.map Prod.fst) us av) x8 (some (.int (f n))) (some (.lst (rows.map prU))) (some (.lst (((qs.map Prod.fst).zip gs1).map prU))) (some (sb rows av).d) (some (.int (j : Nat))) x14 x15 x16 x17 x18), m2, kn cs :: J) := by
    by_cases c : f n % 4 = 1
    · have M := m4 1 (some (.lst (((qs.map Prod.fst).zip (us.map (sb rows))).map prU))) (some (sb rows av).d) m1
      rw [decide_eq_true c] at M
      obtain ⟨uj, huj⟩ : ∃ u, (us.map (sb rows))[j]? = some u := ⟨(us.map (sb rows))[j]'(by rw [T0.1]; exact hjl), List.getElem?_eq_getElem _⟩
      obtain ⟨v, m, ev, hm, hv⟩ := oth_f hf L.hks 6 qj.2 uj m1 (kn cs :: J) (T0.2 j qj uj hqj huj) (by decide) (by omega)
      have ixg : e2 fDG (eVar 11) (eVar 13) (RL x0 KS NS kd FL (ansF (qs.map Prod.fst) us av) x8 (some (.int (f n))) (some (.lst (rows.map prU))) (some (.lst (((qs.map Prod.fst).zip (us.map (sb rows))).map prU))) (some (sb rows av).d) (some (.int (j : Nat))) x14 x15 x16 x17 x18) (m1, kn cs :: J) = some (prU (qj.1, uj), m1, kn cs :: J) := by
        obtain ⟨p, ep, _, gp⟩ := ix_lst (f := prU) (xs := (qs.map Prod.fst).zip (us.map (sb rows))) (i := (j : Nat)) (by omega) (by rw [pl_zip qs _ T0.1]; omega)
        rw [show ((j : Nat) : Int).toNat = j by omega] at gp
        have : ((qs.map Prod.fst).zip (us.map (sb rows)))[j]? = some (qj.1, uj) := by
          rw [List.getElem?_zip_eq_some]
          exact ⟨by rw [List.getElem?_map, hqj]; rfl, huj⟩
        rw [this] at gp
        cases gp
        exact e2_e (eVar_e rfl) (eVar_e rfl) ep
      have EL := eTup_e (aCons_e (e2_e (ixq (some (.lst (((qs.map Prod.fst).zip (us.map (sb rows))).map prU))) (some (sb rows av).d) (m1, kn cs :: J)) rfl (b := eC (.int 0)) (f := fDG) (z := .str qj.1) rfl) (aCons_e (eCall_e (aCons_e (eVar_e (i := 1) rfl) (aCons_e (eVar_e (i := 2) (d := KS) rfl) (aCons_e (e2_e ixg rfl (b := eC (.int 1)) (f := fDG) (z := uj.d) rfl) (aCons_e (e2_e (ixq (some (.lst (((qs.map Prod.fst).zip (us.map (sb rows))).map prU))) (some (sb rows av).d) (m1, kn cs :: J)) rfl (b := eC (.int 1)) (f := fDG) (z := .str qj.2) rfl) aNil_e)))) (by rw [← hKS]; exact ev)) aNil_e))
      refine ⟨(us.map (sb rows)).set j v, m, ⟨by rw [List.length_set]; exact T0.1, fun i q g h1 h2 => ?_⟩, by omega, ?_⟩
      · by_cases hij : j = i
        · subst hij
          rw [List.getElem?_set_self (by rw [T0.1]; exact hjl)] at h2
          cases h2
          rw [hqj] at h1; cases h1
          exact hv
        · rw [List.getElem?_set_ne hij] at h2
          exact (T0.2 i q g h1 h2).mono (by decide)
      · have hset := zip_set (xs := qs.map Prod.fst) (gs := us.map (sb rows)) (j := j) (x := qj.1) (v := v) (by rw [List.getElem?_map, hqj]; rfl) (by rw [T0.1, List.length_map])
        rw [← hset]
        refine (sIf_t M).trans ?_
        exact sPutL_n (k := (j : Nat)) (m1 := (m, kn cs :: J)) (eFl_e EL (by show D.flat (.tup [.str qj.1, v.d]) = true; simp only [D.flat, D.flatA, U.flat, Bool.and_self])) rfl (eVar_e rfl) (ixN_nat (by rw [List.length_map, pl_zip qs _ T0.1]; exact hjl))
    · have M := m4 1 (some (.lst (((qs.map Prod.fst).zip (us.map (sb rows))).map prU))) (some (sb rows av).d) m1
      rw [decide_eq_false c] at M
      exact ⟨us.map (sb rows), m1, T0.mono (by decide), by omega, (sIf_f M).trans rfl⟩
  -- the second bend
  obtain ⟨vv, m3, V1, hm3, w2⟩ : ∃ (vv : U) (m3 : Nat), Ty ks 8 kd vv ∧ m3 ≤ m2 + 10 ∧ sIf (trB (e2 fEq (e2 fMod (eVar 9) (eC (.int 4))) (eC (.int 2)))) (sSet 12 (eCall (F_oth f 6) (aCons (eVar 1) (aCons (eVar 2) (aCons (eVar 12) (aCons (eVar 4) aNil)))))) bNil
      (RL x0 KS NS kd FL (ansF (qs.map Prod.fst) us av) x8 (some (.int (f n))) (some (.lst (rows.map prU))) (some (.lst (((qs.map Prod.fst).zip gs1).map prU))) (some (sb rows av).d) (some (.int (j : Nat))) x14 x15 x16 x17 x18) (m2, kn cs :: J) =
      some (.next (RL x0 KS NS kd FL (ansF (qs.map Prod.fst) us av) x8 (some (.int (f n))) (some (.lst (rows.map prU))) (some (.lst (((qs.map Prod.fst).zip gs1).map prU))) (some vv.d) (some (.int (j : Nat))) x14 x15 x16 x17 x18), m3, kn cs :: J) := by
    by_cases c : f n % 4 = 2
    · have M := m4 2 (some (.lst (((qs.map Prod.fst).zip gs1).map prU))) (some (sb rows av).d) m2
      rw [decide_eq_true c] at M
      obtain ⟨v, m, ev, hm, hv⟩ := oth_f hf L.hks 6 kd (sb rows av) m2 (kn cs :: J) V0 (by decide) (by omega)
      exact ⟨v, m, hv, by omega, (sIf_t M).trans (sSet_n (eCall_e (aCons_e (eVar_e rfl) (aCons_e (eVar_e (d := KS) rfl) (aCons_e (eVar_e rfl) (aCons_e (eVar_e rfl) aNil_e)))) (by rw [← hKS]; exact ev)))⟩
    · have M := m4 2 (some (.lst (((qs.map Prod.fst).zip gs1).map prU))) (some (sb rows av).d) m2
      rw [decide_eq_false c] at M
      exact ⟨sb rows av, m2, V0.mono (by decide), by omega, (sIf_f M).trans rfl⟩
  -- the third one
  obtain ⟨gs, m5, T2, hm5, w3⟩ : ∃ (gs : List U) (m5 : Nat), GT ks qs 8 gs ∧ m5 ≤ m3 + 60 ∧ sIf (trB (e2 fEq (e2 fMod (eVar 9) (eC (.int 8))) (eC (.int 3)))) (sSet 11 (eLc (iSeq (eVar 3)) (gT (gsC (gN 16) (gsC (gN 18) gsN))) tY (eTup (aCons (eVar 16) (aCons (eCall (F_plain f 3) (aCons (eVar 1) (aCons (eVar 2) (aCons (eVar 18) (aCons (eC (.int 2)) aNil))))) aNil))) [16, 18])) bNil
      (RL x0 KS NS kd FL (ansF (qs.map Prod.fst) us av) x8 (some (.int (f n))) (some (.lst (rows.map prU))) (some (.lst (((qs.map Prod.fst).zip gs1).map prU))) (some vv.d) (some (.int (j : Nat))) x14 x15 x16 x17 x18) (m3, kn cs :: J) =
      some (.next (RL x0 KS NS kd FL (ansF (qs.map Prod.fst) us av) x8 (some (.int (f n))) (some (.lst (rows.map prU))) (some (.lst (((qs.map Prod.fst).zip gs).map prU))) (some vv.d) (some (.int (j : Nat))) x14 x15 x16 x17 x18), m5, kn cs :: J) := by
    by_cases c : f n % 8 = 3
    · have M := m8 (some (.lst (((qs.map Prod.fst).zip gs1).map prU))) (some vv.d) m3
      rw [decide_eq_true c] at M
      obtain ⟨ys, m, ms2, el, hm, hly, rfl, gs, rfl, hgl, hgt⟩ := Ds.lcI (g := gT (gsC (gN 16) (gsC (gN 18) gsN))) (te := eTup (aCons (eVar 16) (aCons (eCall (F_plain f 3) (aCons (eVar 1) (aCons (eVar 2) (aCons (eVar 18) (aCons (eC (.int 2)) aNil))))) aNil)))
        (ρ := RL x0 KS NS kd FL (ansF (qs.map Prod.fst) us av) x8 (some (.int (f n))) (some (.lst (rows.map prU))) (some (.lst (((qs.map Prod.fst).zip gs1).map prU))) (some vv.d) (some (.int (j : Nat))) x14 x15 none x17 none) (f := pr2) (c := 13) (fun ys ms => ms = kn cs :: J ∧ ∃ gs : List U, ys = (((qs.map Prod.fst).take gs.length).zip gs).map prU ∧ gs.length ≤ qs.length ∧ ∀ (i : Nat) (q : Str × Str) (g : U), qs[i]? = some q → gs[i]? = some g → Ty ks 3 q.2 g) qs [] (by
          intro i x hx ys hl
          obtain ⟨nm, k⟩ := x
          refine ⟨RL x0 KS NS kd FL (ansF (qs.map Prod.fst) us av) x8 (some (.int (f n))) (some (.lst (rows.map prU))) (some (.lst (((qs.map Prod.fst).zip gs1).map prU))) (some vv.d) (some (.int (j : Nat))) x14 x15 (some (.str nm)) x17 (some (.str k)), rfl, fun n' ms' hp hn' => ?_⟩
          obtain ⟨rfl, gs, rfl, hgl, hgt⟩ := hp
          have hil := (List.getElem?_eq_some_iff.mp hx).1
          have hi : gs.length = i := by
            rw [List.length_map, List.length_zip, List.length_take, List.length_map] at hl
            simp at hl; omega
          obtain ⟨u, m, eu, hm, hu⟩ := plain_f hf L.hks 3 2 k n' (kn cs :: J) (by decide) hn'
          have t1 : (qs.map Prod.fst).take (gs.length + 1) = (qs.map Prod.fst).take gs.length ++ [nm] := by rw [List.take_add_one, List.getElem?_map, hi, hx]; rfl
          refine ⟨prU (nm, u), m, kn cs :: J, eTup_e (aCons_e (eVar_e rfl) (aCons_e (eCall_e (aCons_e (eVar_e rfl) (aCons_e (eVar_e (d := KS) rfl) (aCons_e (eVar_e rfl) (aCons_e rfl aNil_e)))) (by rw [← hKS]; exact eu)) aNil_e)), hm, rfl, gs ++ [u], ?_, by rw [List.length_append]; simp; omega, fun i' q g h1 h2 => ?_⟩
          · rw [List.length_append, List.length_singleton, t1, List.zip_append (by rw [List.length_take, List.length_map]; omega), List.map_append]; rfl
          · by_cases hlt : i' < gs.length
            · rw [List.getElem?_append_left hlt] at h2; exact hgt i' q g h1 h2
            · rw [List.getElem?_append_right (by omega)] at h2
              have h0 : i' - gs.length = 0 := by
                have := (List.getElem?_eq_some_iff.mp h2).1
                simp at this; omega
              rw [h0] at h2
              cases h2
              rw [show i' = i by omega, hx] at h1
              cases h1
              exact hu) m3 (kn cs :: J) ⟨rfl, [], rfl, by simp, fun i q g _ h => by simp at h⟩ (by omega)
      have hgl' : gs.length = qs.length := by
        rw [List.length_map, List.length_zip, List.length_take, List.length_map] at hly; omega
      rw [hgl', List.take_of_length_le (by rw [List.length_map]; omega)] at el
      refine ⟨gs, m, ⟨hgl', fun i q g h1 h2 => (hgt i q g h1 h2).mono (by decide)⟩, by omega, (sIf_t M).trans (sSet_n (eLc_e (vs := [16, 18]) (iSeq_e (eVar_e (d := NS) rfl) (by rw [← hNS]; exact items_tup (by rw [List.length_map]; omega))) el))⟩
    · have M := m8 (some (.lst (((qs.map Prod.fst).zip gs1).map prU))) (some vv.d) m3
      rw [decide_eq_false c] at M
      exact ⟨gs1, m3, T1, by omega, (sIf_f M).trans rfl⟩
  obtain ⟨y14, y15, J', w4⟩ := ending L T2 V1 (x0 := x0) (x8 := x8) (x9 := some (.int (f n))) (x10 := some (.lst (rows.map prU))) (x13 := some (.int (j : Nat))) (x14 := x14) (x15 := x15) (x16 := x16) (x17 := x17) (x18 := x18) (KS := KS) (NS := NS) (FL := FL) (n := m5) (J := J)
  exact ⟨_, _, _, _, _, _, _, m5, J', (start _).trans ((bSeq_n w1).trans ((bSeq_n w2).trans ((bSeq_n w3).trans w4))), by omega⟩
end
end Sh


set_option Elab.async false
set_option linter.all false
set_option maxRecDepth 100000
namespace Sh
open PySem L2 Nf
section
variable {f : Nat → Int} (hf : ∀ n, 0 ≤ f n ∧ f n < 1000)
include hf
theorem law_f {x0 : Option D} : ∃ m, b_law (F_same 26) F_covers F_due (F_plain f 3) (F_oth f 6) (F_filled 3) (nxS f) (F_value f 3) (F_fills f) (F_asked f) (F_kinds f) [x0, some .deck, none, none, none, none, none, none, none, none, none, none, none, none, none, none, none, none, none] (0, []) = some (.ret (.bl true), m) := by
  obtain ⟨ks, m1, ek, hm1, hks⟩ := kinds_f hf (n := 0) (st := []) (by decide)
  obtain ⟨qs, m2, eq, hm2, hqs⟩ := asked_f hf hks (n := m1) (st := []) (by omega)
  obtain ⟨us, m3, cs, eu, hm3, hcl, hop⟩ := fills_f hf hks hqs (n := m2) (by omega)
  obtain ⟨q0, hq0⟩ : ∃ q, qs[0]? = some q := ⟨qs[0]'hqs.1, List.getElem?_eq_getElem _⟩
  obtain ⟨av, m4, ev, hm4, hav⟩ := value_f hf hks (cs := cs) (by omega) 3 2 q0.2 m3 (by decide) (by show m3 + 13 ≤ _; omega)
  have hm4' : m4 ≤ m3 + 13 := hm4
  have lu : us.length = qs.length := by have := hop.at.1; rw [List.length_map] at this; exact this
  have L : LawC ks qs us cs q0.2 av := ⟨hks, hqs, lu, hop, hav, hcl, q0, hq0, rfl⟩
  obtain ⟨ρ', m', h1, y8, y9, y10, y11, y12, y13, y14, y15, n', J', rfl, rfl, h2⟩ := fM_inv (g := gN 8) (b := l2_law (nxS f) (F_plain f 3) (F_filled 3) (F_oth f 6) F_due (F_same 26) F_covers) (fun i ρ m => ∃ (y8 y9 y10 y11 y12 y13 y14 y15 : Option D) (n : Nat) (J : List D), ρ = RL x0 (.tup (ks.map Kd.d)) (.tup (qs.map pr2)) q0.2 (.tup (((qs.map Prod.fst).zip us).map prU)) (ansF (qs.map Prod.fst) us av) y8 y9 y10 y11 y12 y13 y14 y15 none none none ∧ m = (n, kn cs :: J) ∧ n ≤ m4 + 1000 * i) (rngD 0 4) 0
    (RL x0 (.tup (ks.map Kd.d)) (.tup (qs.map pr2)) q0.2 (.tup (((qs.map Prod.fst).zip us).map prU)) (ansF (qs.map Prod.fst) us av) none none none none none none none none none none none) (m4, [kn cs]) ⟨none, none, none, none, none, none, none, none, m4, [], rfl, rfl, by omega⟩ (by
      rintro j d ρ m hj ⟨y8, y9, y10, y11, y12, y13, y14, y15, n, J, rfl, rfl, hn⟩
      obtain ⟨rfl, hjr⟩ := rngD_get hj
      obtain ⟨z9, z10, z11, z12, z13, z14, z15, n', J', e, hn'⟩ := turn_ok hf L (x0 := x0) (x8 := some (.int (0 + (j : Int)))) (x9 := y9) (x10 := y10) (x11 := y11) (x12 := y12) (x13 := y13) (x14 := y14) (x15 := y15) (x16 := none) (x17 := none) (x18 := none) (n := n) (J := J) (by omega)
      exact ⟨_, _, (n', kn cs :: J'), rfl, e, _, _, _, _, _, _, _, _, n', J', rfl, rfl, by omega⟩)
  refine ⟨(n', kn cs :: J'), ?_⟩
  unfold b_law
  refine (bSeq_n (sSet_n (eCall_e (aCons_e (eVar_e rfl) aNil_e) ek))).trans ((bSeq_n (sSet_n (eCall_e (aCons_e (eVar_e rfl) (aCons_e (eVar_e rfl) aNil_e)) eq))).trans ?_)
  obtain ⟨q, e1, _, g1⟩ := ix_tup' (f := pr2) (xs := qs) (i := 0) (by decide) (by have := hqs.1; omega)
  have g1' : qs[0]? = some q := g1
  rw [hq0] at g1'
  cases g1'
  refine (bSeq_n (sSet_n (e2_e (e2_e (eVar_e rfl) rfl e1) rfl (z := .str q0.2) rfl))).trans ((bSeq_n (sSet_n (eShr_e (d := .lst []) (m := (m2, [])) (eLst_e aNil_e) rfl))).trans ?_)
  refine (bSeq_n (sSet_n (eCall_e (aCons_e (eVar_e rfl) (aCons_e (eVar_e rfl) (aCons_e (eVar_e rfl) (aCons_e (eVar_e rfl) aNil_e)))) eu))).trans ?_
  refine (bSeq_n (sSet_n (eTup_e (aCons_e (eVar_e rfl) (aCons_e (eCall_e (aCons_e (eVar_e rfl) (aCons_e (eVar_e rfl) (aCons_e (eVar_e rfl) (aCons_e (eVar_e rfl) (aCons_e rfl aNil_e))))) ev) (aCons_e (eTup_e (aCons_e rfl aNil_e)) (aCons_e rfl (aCons_e (eTup_e aNil_e) aNil_e)))))))).trans ?_
  exact (bSeq_n ((sFor_i (i1_e (x := .int 4) rfl (r1_e (by decide)))).trans h1)).trans (sRet_r rfl)
end
end Sh


set_option Elab.async false
set_option linter.all false
set_option maxRecDepth 100000
namespace Sh
open PySem L2 Nf
theorem _root_.L2.PSs.all {X : Cx} {st : List Stmt} {ι : Type} {t : ι → TS} (h : ∀ i, PSs X st (t i)) : PSs X st (fun E σ H => ∃ i, t i E σ H) := ⟨fun pins s σ H Q I ⟨i, q⟩ => (h i).run pins s σ H Q I q⟩
structure LawI where
  d : Addr
  g : Addr
  c : Addr
  cs : List Int
  rs : List Int
  H0 : Hp
  R0 : Hp
def spLaw (K : PySem.W.Frag) : Sp := fun vs H Q _ => ∃ (a : Addr) (ns : List Int), vs = [.ref a] ∧ SqL K H a (ns.map V.int) ∧ ns.length ≤ 63 ∧ ∀ H', Q (.bl true) H'
section
variable {P : Program} {w : World} {K : PySem.W.Frag} {mg : Str → Option Value} {base : Heap}
theorem never {k : Nat} {f : Addr} {fd : FuncData} {ps : List Str} {c : Cn} {W : Wd} : FnOk P w K mg base CX0 k f fd ps (spM c W fun _ _ => none) := fn_never fun vs H Q E ⟨R, ds, r, n, n', f, hp, e, q⟩ => nomatch e
variable {a_law a_deck a_next a_fitted a_is_covered a_covers a_word a_kinds a_makers a_plain a_filled a_same a_open a_open_fills a_asked_names a_match a_due a_value a_otherwise : Addr}
variable {d_law d_deck d_next d_fitted d_is_covered d_covers d_word d_kinds d_makers d_plain d_filled d_same d_open d_open_fills d_asked_names d_match d_due d_value d_otherwise : FuncData}
theorem ok_law (T : Bt mg) (C_law : Cal K mg "law" s_law P_law a_law d_law) (C_deck : Cal K mg "_law_deck" s_deck P_deck a_deck d_deck) (C_next : Cal K mg "_law_next" s_next P_next a_next d_next)
    (C_fitted : Cal K mg "fitted" s_fitted P_fitted a_fitted d_fitted) (C_is_covered : Cal K mg "is_covered" s_is_covered P_is_covered a_is_covered d_is_covered) (C_covers : Cal K mg "covers" s_covers P_covers a_covers d_covers)
    (C_word : Cal K mg "_law_word" s_word P_word a_word d_word) (C_kinds : Cal K mg "_law_kinds" s_kinds P_kinds a_kinds d_kinds) (C_makers : Cal K mg "_law_makers" s_makers P_makers a_makers d_makers) (C_plain : Cal K mg "_law_plain" s_plain P_plain a_plain d_plain)
    (C_filled : Cal K mg "_law_filled" s_filled P_filled a_filled d_filled) (C_same : Cal K mg "_law_same" s_same P_same a_same d_same) (C_open : Cal K mg "_law_open" s_open P_open a_open d_open) (C_open_fills : Cal K mg "_law_open_fills" s_open_fills P_open_fills a_open_fills d_open_fills)
    (C_asked_names : Cal K mg "_law_asked_names" s_asked_names P_asked_names a_asked_names d_asked_names) (C_match : Cal K mg "_law_match" s_match P_match a_match d_match) (C_due : Cal K mg "_law_due" s_due P_due a_due d_due) (C_value : Cal K mg "_law_value" s_value P_value a_value d_value) (C_otherwise : Cal K mg "_law_otherwise" s_otherwise P_otherwise a_otherwise d_otherwise) :
    FnOk P w K mg base CX0 28 a_law d_law P_law (spLaw K) := by
  refine C_law.F.ok sc_law (fun vs H Q E h => ?_) (fun cdv A outer s H vs Q E hr h => ?_)
  · obtain ⟨a, ns, rfl, _⟩ := h
    rfl
  obtain ⟨a, ns, rfl, hS, h63, q⟩ := h
  have G_deck := ok_deck (P := P) (w := w) (base := base) T C_deck
  have tail : ∀ i : LawI, PSs (cxOf CX0 P w K mg base N_law "law" (defScope s_law) a_law cdv A outer s H E).nox ((defBody s_law).drop 1) (upS ⟨⟨K, i.d⟩, Wdk i.d i.g i.c i.cs i.rs, ow_law, i.H0, i.R0⟩
      (b_law (F_same 26) F_covers F_due (F_plain (strm i.cs i.rs) 3) (F_oth (strm i.cs i.rs) 6) (F_filled 3) (nxS (strm i.cs i.rs)) (F_value (strm i.cs i.rs) 3) (F_fills (strm i.cs i.rs)) (F_asked (strm i.cs i.rs)) (F_kinds (strm i.cs i.rs)))) := fun i => by
    have G_next : FnOk P w K mg base CX0 1 a_next d_next P_next (spM ⟨K, i.d⟩ (Wdk i.d i.g i.c i.cs i.rs) (nxS (strm i.cs i.rs))) := ok_nextM (ok_next T C_next)
    have G_same : ∀ n, FnOk P w K mg base CX0 n a_same d_same P_same (spM ⟨K, i.d⟩ (Wdk i.d i.g i.c i.cs i.rs) (F_same n)) := fun n => by
      induction n with
      | zero => exact never
      | succ k ih => exact ok_same T C_same ih
    have G_match : ∀ n, FnOk P w K mg base CX0 n a_match d_match P_match (spM ⟨K, i.d⟩ (Wdk i.d i.g i.c i.cs i.rs) (F_match n)) := fun n => by
      induction n with
      | zero => exact never
      | succ k ih => exact ok_match T C_match ih
    have G_filled : ∀ n, FnOk P w K mg base CX0 n a_filled d_filled P_filled (spM ⟨K, i.d⟩ (Wdk i.d i.g i.c i.cs i.rs) (F_filled n)) := fun n => by
      induction n with
      | zero => exact never
      | succ k ih => exact ok_filled T C_filled ih
    have G_due : FnOk P w K mg base CX0 13 a_due d_due P_due (spM ⟨K, i.d⟩ (Wdk i.d i.g i.c i.cs i.rs) F_due) := ok_due (k := 12) T C_due C_match (G_match 12)
    have G_fitted : FnOk P w K mg base CX0 1 a_fitted d_fitted P_fitted (spM ⟨K, i.d⟩ (Wdk i.d i.g i.c i.cs i.rs) F_fitted) := ok_fitted (k := 0) T C_fitted
    have G_isc : FnOk P w K mg base CX0 2 a_is_covered d_is_covered P_is_covered (spM ⟨K, i.d⟩ (Wdk i.d i.g i.c i.cs i.rs) F_isc) := ok_is_covered (k := 1) T C_is_covered C_fitted G_fitted
    have G_covers : FnOk P w K mg base CX0 3 a_covers d_covers P_covers (spM ⟨K, i.d⟩ (Wdk i.d i.g i.c i.cs i.rs) F_covers) := ok_covers (k := 2) T C_covers C_is_covered G_isc
    have G_makers : FnOk P w K mg base CX0 1 a_makers d_makers P_makers (spM ⟨K, i.d⟩ (Wdk i.d i.g i.c i.cs i.rs) F_makers) := ok_makers (k := 0) T C_makers
    have G_word : FnOk P w K mg base CX0 1 a_word d_word P_word (spM ⟨K, i.d⟩ (Wdk i.d i.g i.c i.cs i.rs) F_word) := ok_word (k := 0) T C_word
    have G_kinds : FnOk P w K mg base CX0 2 a_kinds d_kinds P_kinds (spM ⟨K, i.d⟩ (Wdk i.d i.g i.c i.cs i.rs) (F_kinds (strm i.cs i.rs))) := ok_kinds (k := 1) T C_kinds C_word G_word C_next G_next
    have G_asked : FnOk P w K mg base CX0 2 a_asked_names d_asked_names P_asked_names (spM ⟨K, i.d⟩ (Wdk i.d i.g i.c i.cs i.rs) (F_asked (strm i.cs i.rs))) := ok_asked_names (k := 1) T C_asked_names C_next G_next
    have G_plain : ∀ n, FnOk P w K mg base CX0 (n + 1) a_plain d_plain P_plain (spM ⟨K, i.d⟩ (Wdk i.d i.g i.c i.cs i.rs) (F_plain (strm i.cs i.rs) n)) := fun n => by
      induction n with
      | zero => exact never
      | succ k ih => exact ok_plain T C_plain ih C_next (G_next.mono (by omega)) C_makers (G_makers.mono (by omega))
    have G_open : ∀ n, FnOk P w K mg base CX0 (n + 1) a_open d_open P_open (spM ⟨K, i.d⟩ (Wdk i.d i.g i.c i.cs i.rs) (F_open (strm i.cs i.rs) n)) := fun n => by
      induction n with
      | zero => exact never
      | succ k ih => exact ok_open T C_open ih C_makers (G_makers.mono (by omega)) C_next (G_next.mono (by omega))
    have G_value : ∀ n, FnOk P w K mg base CX0 (n + 1) a_value d_value P_value (spM ⟨K, i.d⟩ (Wdk i.d i.g i.c i.cs i.rs) (F_value (strm i.cs i.rs) n)) := fun n => by
      induction n with
      | zero => exact never
      | succ k ih => exact ok_value T C_value ih C_makers (G_makers.mono (by omega)) C_next (G_next.mono (by omega))
    have G_fills : FnOk P w K mg base CX0 5 a_open_fills d_open_fills P_open_fills (spM ⟨K, i.d⟩ (Wdk i.d i.g i.c i.cs i.rs) (F_fills (strm i.cs i.rs))) := ok_open_fills (k := 4) T C_open_fills C_open (G_open 3) C_next (G_next.mono (by omega))
    have G_oth : ∀ n, FnOk P w K mg base CX0 (n + 3) a_otherwise d_otherwise P_otherwise (spM ⟨K, i.d⟩ (Wdk i.d i.g i.c i.cs i.rs) (F_oth (strm i.cs i.rs) n)) := fun n => by
      induction n with
      | zero => exact never
      | succ k ih => exact ok_otherwise T C_otherwise ih C_makers (G_makers.mono (by omega)) C_plain ((G_plain 2).mono (by omega)) C_next (G_next.mono (by omega))
    exact (db_law (k := 27) (a_law := a_law) (d_law := d_law) T C_same ((G_same 26).mono (by omega)) C_covers (G_covers.mono (by omega)) C_due (G_due.mono (by omega)) C_plain ((G_plain 3).mono (by omega)) C_otherwise ((G_oth 6).mono (by omega)) C_filled ((G_filled 3).mono (by omega)) C_next (G_next.mono (by omega)) C_value ((G_value 3).mono (by omega)) C_open_fills (G_fills.mono (by omega)) C_asked_names (G_asked.mono (by omega)) C_kinds (G_kinds.mono (by omega)) cdv A outer s H E i.H0 i.R0 hr).p
  refine ⟨_, PSs.nox (pss_cons (ps_set (i := 1) sc_law.nd rfl (Or.inr rfl) (pe_call G_deck (hr.mono (by omega)) (by rfl) C_deck.m C_deck.F.kp C_deck.b .nil pass0 (pa_cons (pv 0) pa_nil))) (PSs.all tail)), ?_⟩
  refine ⟨_, rfl, a, ns, rfl, hS, h63, fun d g c cs rs H1 D1 S1 hd hg hc => ?_⟩
  obtain ⟨m, em⟩ := law_f (f := strm cs rs) (fun n => strm_range cs rs n) (x0 := none)
  refine ⟨⟨d, g, c, cs, rs, H1, fun _ => none⟩, fun _ => none, _, (0, []), _, m, ⟨rfl, fun i e _ he => ?_, fun i e hi he => ?_, fun i j b e e' hi hj he => ?_, ⟨⟨fun _ _ z => (nomatch z), fun _ _ z => (nomatch z)⟩, fun _ _ => rfl, fun x hx => ?_, D1, KeepM.refl _ _ _, Same.refl _, fun x z => absurd rfl z, ⟨fun a j e => (nomatch e), fun a b j e => (nomatch e)⟩⟩⟩, em, fun v R' H' _ z => ?_⟩
  · have hi : i = 1 := by
      match i, he with
      | 0, he => cases he
      | 1, _ => rfl
      | i + 2, he =>
        exfalso
        have : ∀ j, (List.replicate 17 none : List (Option D))[j]? ≠ some (some e) := fun j hj => by
          have := List.mem_of_getElem? hj
          simp at this
        exact this i he
    subst hi
    cases he
    exact ⟨.ref d, rfl, .deck⟩
  · exfalso
    have hi' : i = 11 := by simpa [ow_law] using hi
    subst hi'
    cases he
  · exfalso
    have hi' : i = 11 := by simpa [ow_law] using hi
    subst hi'
    cases he
  · exact (Wdk d g c cs rs).there 0 H1 D1 x hx
  · cases z
    exact q H'
end
end Sh


set_option Elab.async false
set_option linter.all false
set_option maxRecDepth 100000
set_option maxHeartbeats 0
namespace Sh
open PySem L2 Nf
def dd_fitted : He.DefD := ⟨("fitted", none), "fitted", "fitted", defArgs s_fitted, defBody s_fitted, defScope s_fitted, [], []⟩
def dd_covers : He.DefD := ⟨("covers", none), "covers", "covers", defArgs s_covers, defBody s_covers, defScope s_covers, [], []⟩
def dd_is_covered : He.DefD := ⟨("is_covered", none), "is_covered", "is_covered", defArgs s_is_covered, defBody s_is_covered, defScope s_is_covered, [], []⟩
def dd_deck : He.DefD := ⟨("_law_deck", none), "_law_deck", "_law_deck", defArgs s_deck, defBody s_deck, defScope s_deck, [], []⟩
def dd_next : He.DefD := ⟨("_law_next", none), "_law_next", "_law_next", defArgs s_next, defBody s_next, defScope s_next, [], []⟩
def dd_word : He.DefD := ⟨("_law_word", none), "_law_word", "_law_word", defArgs s_word, defBody s_word, defScope s_word, [], []⟩
def dd_kinds : He.DefD := ⟨("_law_kinds", none), "_law_kinds", "_law_kinds", defArgs s_kinds, defBody s_kinds, defScope s_kinds, [], []⟩
def dd_makers : He.DefD := ⟨("_law_makers", none), "_law_makers", "_law_makers", defArgs s_makers, defBody s_makers, defScope s_makers, [], []⟩
def dd_plain : He.DefD := ⟨("_law_plain", none), "_law_plain", "_law_plain", defArgs s_plain, defBody s_plain, defScope s_plain, [], []⟩
def dd_filled : He.DefD := ⟨("_law_filled", none), "_law_filled", "_law_filled", defArgs s_filled, defBody s_filled, defScope s_filled, [], []⟩
def dd_same : He.DefD := ⟨("_law_same", none), "_law_same", "_law_same", defArgs s_same, defBody s_same, defScope s_same, [], []⟩
def dd_open : He.DefD := ⟨("_law_open", none), "_law_open", "_law_open", defArgs s_open, defBody s_open, defScope s_open, [], []⟩
def dd_open_fills : He.DefD := ⟨("_law_open_fills", none), "_law_open_fills", "_law_open_fills", defArgs s_open_fills, defBody s_open_fills, defScope s_open_fills, [], []⟩
def dd_asked_names : He.DefD := ⟨("_law_asked_names", none), "_law_asked_names", "_law_asked_names", defArgs s_asked_names, defBody s_asked_names, defScope s_asked_names, [], []⟩
def dd_match : He.DefD := ⟨("_law_match", none), "_law_match", "_law_match", defArgs s_match, defBody s_match, defScope s_match, [], []⟩
def dd_due : He.DefD := ⟨("_law_due", none), "_law_due", "_law_due", defArgs s_due, defBody s_due, defScope s_due, [], []⟩
def dd_value : He.DefD := ⟨("_law_value", none), "_law_value", "_law_value", defArgs s_value, defBody s_value, defScope s_value, [], []⟩
def dd_otherwise : He.DefD := ⟨("_law_otherwise", none), "_law_otherwise", "_law_otherwise", defArgs s_otherwise, defBody s_otherwise, defScope s_otherwise, [], []⟩
def dd_law : He.DefD := ⟨("law", none), "law", "law", defArgs s_law, defBody s_law, defScope s_law, [], []⟩
def fns : List He.DefD := [dd_fitted, dd_covers, dd_is_covered, dd_deck, dd_next, dd_word, dd_kinds, dd_makers, dd_plain, dd_filled, dd_same, dd_open, dd_open_fills, dd_asked_names, dd_match, dd_due, dd_value, dd_otherwise, dd_law]
def fas : List He.Fa := [.glo "fitted", .glo "covers", .glo "is_covered", .glo "_law_deck", .glo "_law_next", .glo "_law_word", .glo "_law_kinds", .glo "_law_makers", .glo "_law_plain", .glo "_law_filled", .glo "_law_same", .glo "_law_open", .glo "_law_open_fills", .glo "_law_asked_names", .glo "_law_match", .glo "_law_due", .glo "_law_value", .glo "_law_otherwise", .glo "law", .free "len", .free "abs", .free "range", .free "zip", .free "isinstance", .free "all", .free "tuple", .free "str", .free "int", .free "bool", .free "enumerate", .free "list", .free "dict", .free "any", .free "sum", .free "max", .free "min"]
def loose : List PySem.Str := ["fitted", "covers", "is_covered", "_law_deck", "_law_next", "_law_word", "_law_kinds", "_law_makers", "_law_plain", "_law_filled", "_law_same", "_law_open", "_law_open_fills", "_law_asked_names", "_law_match", "_law_due", "_law_value", "_law_otherwise"]
def exB (_ : PySem.W.Frag) : Bool := true
abbrev R : PySem.W.OpenRow := PySem.W.OpenLaw.row PySem.Challenge.rw_needfill_k49_covered_fills
abbrev hk : PySem.W.Hook := hookB 4 fas fns exB
def ob (s : PySem.W.SharedT) : AlB := obsB 4 fas fns exB (HandSHeadRun.getT s)
theorem ob_eq (s : PySem.W.SharedT) : ob s = hk.obs s.abs := obsB_eq (HandSHeadRun.getT_eq s)
theorem run (w : World) : HandSHeadRun.RunEq R (PySem.W.view R.prog [21]) hk ob 3000 loose w := by
  intro os
  kernel_rfl
theorem facts {P : Program} {w : World} {K : PySem.W.Frag} {h : Heap} {mg : Str → Option Value} {f : Addr} (X : K.In h) (G : h.Ns mainGlobals mg) (hfa : mg ("law" : Str) = some (.ref f)) (c : He.SaysD fas fns K) (cx : exB K = true) :
    ∃ fd : FuncData, (∀ (s : Shared) (v : Value), BindsTo s fd ⟨[v], []⟩ [("_law_script", v)]) ∧ ∀ base : Heap, K.In base → base.Ns mainGlobals mg → FnOk P w K mg base CX0 28 f fd ["_law_script"] (spLaw K) := by
  obtain ⟨e_fitted, F0_fitted⟩ := c.def_ 0 (d := dd_fitted) rfl
  have C_fitted : Cal K mg "fitted" s_fitted P_fitted _ e_fitted := ⟨F0_fitted, He.glo_ok X G (c.fact 0 (f := .glo "fitted") rfl), FunD.bindsN (ps := P_fitted) F0_fitted fun _ _ _ _ _ _ us hl => match us, hl with | [_, _], _ => rfl⟩
  obtain ⟨e_covers, F0_covers⟩ := c.def_ 1 (d := dd_covers) rfl
  have C_covers : Cal K mg "covers" s_covers P_covers _ e_covers := ⟨F0_covers, He.glo_ok X G (c.fact 1 (f := .glo "covers") rfl), FunD.bindsN (ps := P_covers) F0_covers fun _ _ _ _ _ _ us hl => match us, hl with | [_, _, _], _ => rfl⟩
  obtain ⟨e_is_covered, F0_is_covered⟩ := c.def_ 2 (d := dd_is_covered) rfl
  have C_is_covered : Cal K mg "is_covered" s_is_covered P_is_covered _ e_is_covered := ⟨F0_is_covered, He.glo_ok X G (c.fact 2 (f := .glo "is_covered") rfl), FunD.bindsN (ps := P_is_covered) F0_is_covered fun _ _ _ _ _ _ us hl => match us, hl with | [_, _, _], _ => rfl⟩
  obtain ⟨e_deck, F0_deck⟩ := c.def_ 3 (d := dd_deck) rfl
  have C_deck : Cal K mg "_law_deck" s_deck P_deck _ e_deck := ⟨F0_deck, He.glo_ok X G (c.fact 3 (f := .glo "_law_deck") rfl), FunD.bindsN (ps := P_deck) F0_deck fun _ _ _ _ _ _ us hl => match us, hl with | [_], _ => rfl⟩
  obtain ⟨e_next, F0_next⟩ := c.def_ 4 (d := dd_next) rfl
  have C_next : Cal K mg "_law_next" s_next P_next _ e_next := ⟨F0_next, He.glo_ok X G (c.fact 4 (f := .glo "_law_next") rfl), FunD.bindsN (ps := P_next) F0_next fun _ _ _ _ _ _ us hl => match us, hl with | [_], _ => rfl⟩
  obtain ⟨e_word, F0_word⟩ := c.def_ 5 (d := dd_word) rfl
  have C_word : Cal K mg "_law_word" s_word P_word _ e_word := ⟨F0_word, He.glo_ok X G (c.fact 5 (f := .glo "_law_word") rfl), FunD.bindsN (ps := P_word) F0_word fun _ _ _ _ _ _ us hl => match us, hl with | [_, _, _], _ => rfl⟩
  obtain ⟨e_kinds, F0_kinds⟩ := c.def_ 6 (d := dd_kinds) rfl
  have C_kinds : Cal K mg "_law_kinds" s_kinds P_kinds _ e_kinds := ⟨F0_kinds, He.glo_ok X G (c.fact 6 (f := .glo "_law_kinds") rfl), FunD.bindsN (ps := P_kinds) F0_kinds fun _ _ _ _ _ _ us hl => match us, hl with | [_], _ => rfl⟩
  obtain ⟨e_makers, F0_makers⟩ := c.def_ 7 (d := dd_makers) rfl
  have C_makers : Cal K mg "_law_makers" s_makers P_makers _ e_makers := ⟨F0_makers, He.glo_ok X G (c.fact 7 (f := .glo "_law_makers") rfl), FunD.bindsN (ps := P_makers) F0_makers fun _ _ _ _ _ _ us hl => match us, hl with | [_, _], _ => rfl⟩
  obtain ⟨e_plain, F0_plain⟩ := c.def_ 8 (d := dd_plain) rfl
  have C_plain : Cal K mg "_law_plain" s_plain P_plain _ e_plain := ⟨F0_plain, He.glo_ok X G (c.fact 8 (f := .glo "_law_plain") rfl), FunD.bindsN (ps := P_plain) F0_plain fun _ _ _ _ _ _ us hl => match us, hl with | [_, _, _, _], _ => rfl⟩
  obtain ⟨e_filled, F0_filled⟩ := c.def_ 9 (d := dd_filled) rfl
  have C_filled : Cal K mg "_law_filled" s_filled P_filled _ e_filled := ⟨F0_filled, He.glo_ok X G (c.fact 9 (f := .glo "_law_filled") rfl), FunD.bindsN (ps := P_filled) F0_filled fun _ _ _ _ _ _ us hl => match us, hl with | [_, _], _ => rfl⟩
  obtain ⟨e_same, F0_same⟩ := c.def_ 10 (d := dd_same) rfl
  have C_same : Cal K mg "_law_same" s_same P_same _ e_same := ⟨F0_same, He.glo_ok X G (c.fact 10 (f := .glo "_law_same") rfl), FunD.bindsN (ps := P_same) F0_same fun _ _ _ _ _ _ us hl => match us, hl with | [_, _], _ => rfl⟩
  obtain ⟨e_open, F0_open⟩ := c.def_ 11 (d := dd_open) rfl
  have C_open : Cal K mg "_law_open" s_open P_open _ e_open := ⟨F0_open, He.glo_ok X G (c.fact 11 (f := .glo "_law_open") rfl), FunD.bindsN (ps := P_open) F0_open fun _ _ _ _ _ _ us hl => match us, hl with | [_, _, _, _, _], _ => rfl⟩
  obtain ⟨e_open_fills, F0_open_fills⟩ := c.def_ 12 (d := dd_open_fills) rfl
  have C_open_fills : Cal K mg "_law_open_fills" s_open_fills P_open_fills _ e_open_fills := ⟨F0_open_fills, He.glo_ok X G (c.fact 12 (f := .glo "_law_open_fills") rfl), FunD.bindsN (ps := P_open_fills) F0_open_fills fun _ _ _ _ _ _ us hl => match us, hl with | [_, _, _, _], _ => rfl⟩
  obtain ⟨e_asked_names, F0_asked_names⟩ := c.def_ 13 (d := dd_asked_names) rfl
  have C_asked_names : Cal K mg "_law_asked_names" s_asked_names P_asked_names _ e_asked_names := ⟨F0_asked_names, He.glo_ok X G (c.fact 13 (f := .glo "_law_asked_names") rfl), FunD.bindsN (ps := P_asked_names) F0_asked_names fun _ _ _ _ _ _ us hl => match us, hl with | [_, _], _ => rfl⟩
  obtain ⟨e_match, F0_match⟩ := c.def_ 14 (d := dd_match) rfl
  have C_match : Cal K mg "_law_match" s_match P_match _ e_match := ⟨F0_match, He.glo_ok X G (c.fact 14 (f := .glo "_law_match") rfl), FunD.bindsN (ps := P_match) F0_match fun _ _ _ _ _ _ us hl => match us, hl with | [_, _, _], _ => rfl⟩
  obtain ⟨e_due, F0_due⟩ := c.def_ 15 (d := dd_due) rfl
  have C_due : Cal K mg "_law_due" s_due P_due _ e_due := ⟨F0_due, He.glo_ok X G (c.fact 15 (f := .glo "_law_due") rfl), FunD.bindsN (ps := P_due) F0_due fun _ _ _ _ _ _ us hl => match us, hl with | [_, _, _], _ => rfl⟩
  obtain ⟨e_value, F0_value⟩ := c.def_ 16 (d := dd_value) rfl
  have C_value : Cal K mg "_law_value" s_value P_value _ e_value := ⟨F0_value, He.glo_ok X G (c.fact 16 (f := .glo "_law_value") rfl), FunD.bindsN (ps := P_value) F0_value fun _ _ _ _ _ _ us hl => match us, hl with | [_, _, _, _, _], _ => rfl⟩
  obtain ⟨e_otherwise, F0_otherwise⟩ := c.def_ 17 (d := dd_otherwise) rfl
  have C_otherwise : Cal K mg "_law_otherwise" s_otherwise P_otherwise _ e_otherwise := ⟨F0_otherwise, He.glo_ok X G (c.fact 17 (f := .glo "_law_otherwise") rfl), FunD.bindsN (ps := P_otherwise) F0_otherwise fun _ _ _ _ _ _ us hl => match us, hl with | [_, _, _, _], _ => rfl⟩
  obtain ⟨e_law, F0_law⟩ := c.def_ 18 (d := dd_law) rfl
  have C_law : Cal K mg "law" s_law P_law _ e_law := ⟨F0_law, He.glo_ok X G (c.fact 18 (f := .glo "law") rfl), FunD.bindsN (ps := P_law) F0_law fun _ _ _ _ _ _ us hl => match us, hl with | [_], _ => rfl⟩
  have T : Bt mg := ⟨He.free_ok X G (c.fact 19 (f := .free "len") rfl), He.free_ok X G (c.fact 20 (f := .free "abs") rfl), He.free_ok X G (c.fact 21 (f := .free "range") rfl), He.free_ok X G (c.fact 22 (f := .free "zip") rfl), He.free_ok X G (c.fact 23 (f := .free "isinstance") rfl), He.free_ok X G (c.fact 24 (f := .free "all") rfl), He.free_ok X G (c.fact 25 (f := .free "tuple") rfl), He.free_ok X G (c.fact 26 (f := .free "str") rfl), He.free_ok X G (c.fact 27 (f := .free "int") rfl), He.free_ok X G (c.fact 28 (f := .free "bool") rfl), He.free_ok X G (c.fact 29 (f := .free "enumerate") rfl), He.free_ok X G (c.fact 30 (f := .free "list") rfl), He.free_ok X G (c.fact 31 (f := .free "dict") rfl), He.free_ok X G (c.fact 32 (f := .free "any") rfl), He.free_ok X G (c.fact 33 (f := .free "sum") rfl), He.free_ok X G (c.fact 34 (f := .free "max") rfl), He.free_ok X G (c.fact 35 (f := .free "min") rfl)⟩
  have e := hfa.symm.trans C_law.m
  cases e
  have b := FunD.bindsA (ps := ["_law_script"]) F0_law fun _ _ _ _ _ _ us hl => match us, hl with | [_], _ => rfl
  refine ⟨e_law, fun s v => b s [v] rfl, fun base _ _ => ?_⟩
  exact ok_law T C_law C_deck C_next C_fitted C_is_covered C_covers C_word C_kinds C_makers C_plain C_filled C_same C_open C_open_fills C_asked_names C_match C_due C_value C_otherwise
end Sh
open PySem PySem.W PySem.Calls PyProof.Rows
set_option maxRecDepth 100000 in
set_option maxHeartbeats 0 in
theorem PySem.Challenge.cw_needfill_k49_covered_fills_holds : PySem.Challenge.rw_needfill_k49_covered_fills.Holds := by
  w_on; o_law
  refine HandSHeadRun.head_any (r := OpenLaw.row PySem.Challenge.rw_needfill_k49_covered_fills) (q := view (OpenLaw.row PySem.Challenge.rw_needfill_k49_covered_fills).prog [21]) (H := Sh.hk) (ob := Sh.ob) (M := 3000) (loose := Sh.loose) (d := HandSHeadRun.topDef (OpenLaw.row PySem.Challenge.rw_needfill_k49_covered_fills).prog 21) (kwd := []) Sh.ob_eq
    (by kernel_rfl) (fun s => by kernel_rfl) Sh.run (by kernel_rfl) (by kernel_rfl) (by kernel_rfl) (by rfl) (by first | assumption | decide +kernel) (by decide +kernel) ⟨rfl, rfl, rfl, rfl, rfl, by decide +kernel⟩ ?hw ?hc
  case hw => w_witness2
  case hc =>
    refine L2.walk_ofE (l := PySem.Challenge.rw_needfill_k49_covered_fills) (n := 63) (k := 28) (x := "_law_script") (CX := L2.CX0) rfl (by decide) (by kernel_rfl) ⟨rfl, by decide, by decide⟩ ?F (fun _ _ _ _ z => z)
    intro w mg fa h Y G hmg0
    obtain ⟨K, KX, c, cx⟩ := Y
    have hmg : mg ("law" : PySem.Str) = some (.ref fa) := by
      have e : (HandSHeadRun.topDef (OpenLaw.row PySem.Challenge.rw_needfill_k49_covered_fills).prog 21).name = ("law" : PySem.Str) := by kernel_rfl
      rw [← e]
      exact hmg0
    obtain ⟨fd, hb, hF⟩ := Sh.facts (P := (PySem.Challenge.rw_needfill_k49_covered_fills).prog) (w := w) KX G hmg c cx
    exact ⟨K, fd, Sh.spLaw K, KX, hb, fun H a ns hl _ hS => ⟨a, ns, rfl, hS, hl, fun _ => rfl⟩, hF⟩


