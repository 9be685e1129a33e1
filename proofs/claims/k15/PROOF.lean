import PyProof.Rows.All
import Wide.All
import OpenK.AllK
import Wide.FinOn
import HandS.ForMost
import HandS.ForExc
import HandS.Evl
import HandS.Walk
import HandS.Wide
import HandS.WideBits
import HandS.SetBool
import HandS.SetKeys
import HandS.Strs
import HandS.IsInst
import HandS.RevRange
import HandS.TupAny
import HandS.More
import HandS.Lambda
import HandS.Zip
import HandS.Rev
import KE.GoesZip
import KE.GoesMore
import HandS.SortInts
import HandS.Style
import HandS.EndTab
import PySem.Challenge.RW_treehands_k15_guessers_read
set_option Elab.async false
set_option linter.all false
set_option maxRecDepth 100000
set_option maxHeartbeats 4000000
namespace TH
open PySem PySem.Spec PyProof.Rows L2 Evl

/-! ### the box: a list of two ints whose values nobody asks for -/
def BoxAt (b : Addr) (h : Heap) : Prop :=
  ∃ (i j : Int) (t u : Tok) (n : Nat), h.get? b = some { cls := .type "list", data := .seq [Value.int i t, .int j u].toArray n }
def Box (b : Addr) : HO := .ext (BoxAt b)

theorem box_shut {P : Program} {w : World} {H H' : Hp} {h : Heap} {b : Addr} {i j : Int}
    (x : ObjOk P w H h b (.lst [.int i, .int j])) : ObjOk P w H' h b (Box b) := by
  obtain ⟨_, its, n, r, e⟩ := x
  cases r with
  | cons r1 r =>
    cases r with
    | cons r2 r =>
      cases r
      obtain ⟨t, rfl⟩ := r1
      obtain ⟨u, rfl⟩ := r2
      exact ⟨⟨i, j, t, u, n, e⟩, ⟨_, e⟩, fun h1 h2 ⟨i, j, t, u, n, q⟩ k => ⟨i, j, t, u, n, k _ q⟩⟩
theorem box_open {P : Program} {w : World} {H : Hp} {h : Heap} {b : Addr}
    (x : ObjOk P w H h b (Box b)) : ∃ i j : Int, ∀ H', ObjOk P w H' h b (.lst [.int i, .int j]) := by
  obtain ⟨⟨i, j, t, u, n, e⟩, _, _⟩ := x
  exact ⟨i, j, fun H' => ⟨by show 2 ≤ sizeLine; decide, _, n, .cons ⟨t, rfl⟩ (.cons ⟨u, rfl⟩ .nil), e⟩⟩
section
variable {X : Cx} {pins : List (Addr × Obj)} {σ : L2.St} {H : Hp} {s : Shared} {b : Addr}
theorem inv_swap {o o' : HO} (I : Inv X pins σ H s) (ho : H b = some o) (mu : Mut (some o))
    (lt : ∃ u, s.heap.get? b = some u) (new : ObjOk X.prog X.w (upd H b o') s.heap b o') : Inv X pins σ (upd H b o') s := by
  exact I.write (e := b) (t' := s.toks) (by rw [ho]; exact mu) (.inl rfl) (fun _ _ _ q => q) lt new
theorem inv_shut {i j : Int} (I : Inv X pins σ H s) (hb : H b = some (.lst [.int i, .int j])) : Inv X pins σ (upd H b (Box b)) s :=
  let ⟨_, _, _, _, e⟩ := I.hok b _ hb; inv_swap I hb trivial ⟨_, e⟩ (box_shut (I.hok b _ hb))
theorem inv_open (I : Inv X pins σ H s) (hb : H b = some (Box b)) : ∃ i j : Int, Inv X pins σ (upd H b (.lst [.int i, .int j])) s := by
  obtain ⟨i, j, k⟩ := box_open (I.hok b _ hb)
  exact ⟨i, j, inv_swap I hb trivial (I.hok b _ hb).2.1 (k _)⟩
theorem upd_same_eq {o : HO} (h : H b = some o) : upd H b o = H := by
  funext c
  unfold upd
  split
  · rename_i e
    rw [e, h]
  · rfl
end
section
variable {X : Cx}
/-- box[0], box[1] -/
def rIxBox : R2 := fun x y H Q => ∃ (b : Addr) (k : Int), x = .ref b ∧ y = .int k ∧ (k = 0 ∨ k = 1) ∧ H b = some (Box b) ∧ ∀ z, Q (.int z) H
theorem ix_box : IxR X rIxBox := by
  intro value slice pins s σ H x y v u Q I rx ry h hs
  obtain ⟨b, k, rfl, rfl, hk, hb, q⟩ := h
  obtain ⟨i, j, I1⟩ := inv_open I hb
  have hx : ∃ z, atI [V.int i, V.int j] k = some (.int z) := by
    rcases hk with rfl | rfl
    · exact ⟨i, rfl⟩
    · exact ⟨j, rfl⟩
  obtain ⟨z, hz⟩ := hx
  refine wpAny_mono (ix_list value slice pins s σ _ (.ref b) (.int k) v u (fun v H1 => v = .int z ∧ H1 = upd H b (.lst [.int i, .int j])) I1 rx ry ⟨b, _, k, _, rfl, rfl, SqL.of upd_same, hz, rfl, rfl⟩ hs) (fun w s1 hw => ?_) fun _ _ e => e
  obtain ⟨v1, H1, I2, r1, e1, e2⟩ := hw
  subst e1 e2
  have I3 := inv_shut I2 upd_same
  rw [upd_upd, upd_same_eq hb] at I3
  exact ⟨_, H, I3, r1, q z⟩
/-- box[0] = an int -/
def rSetBox : V → V → V → Hp → (Hp → Prop) → Prop := fun o i v H Q => ∃ (b : Addr) (k z : Int), o = .ref b ∧ i = .int k ∧ v = .int z ∧ (k = 0 ∨ k = 1) ∧ H b = some (Box b) ∧ Q H
theorem set_box : PSet X rSetBox := by
  intro pins s σ H o i v ov iv u Q I ro ri rv h
  obtain ⟨b, k, z, rfl, rfl, rfl, hk, hb, q⟩ := h
  obtain ⟨i0, j0, I1⟩ := inv_open I hb
  have hx : ∃ n i1 j1, ixN [V.int i0, V.int j0].length k = some n ∧ [V.int i0, V.int j0].set n (.int z) = [.int i1, .int j1] := by
    rcases hk with rfl | rfl
    · exact ⟨0, z, j0, rfl, rfl⟩
    · exact ⟨1, i0, z, rfl, rfl⟩
  obtain ⟨n, i1, j1, hn, hset⟩ := hx
  refine wpAny_mono (set_list pins s σ _ (.ref b) (.int k) (.int z) ov iv u (fun H1 => H1 = upd (upd H b (.lst [.int i0, .int j0])) b (.lst [.int i1, .int j1])) I1 ro ri rv ⟨b, _, k, n, rfl, rfl, upd_same, hn, by rw [hset]⟩) (fun _ s1 hw => ?_) fun _ _ e => e
  obtain ⟨H1, I2, e1⟩ := hw
  subst e1
  have I3 := inv_shut I2 upd_same
  rw [upd_upd, upd_upd, upd_same_eq hb] at I3
  exact ⟨H, I3, q⟩
/-- a value that is a new list of two ints becomes a box -/
theorem pe_shut {e : Expr} {t : TE} (h : PE X e t) : PE X e (fun σ H Q => t σ H fun v H1 => ∃ b i j, v = .ref b ∧ H1 b = some (.lst [.int i, .int j]) ∧ Q (.ref b) (upd H1 b (Box b))) := by
  refine ⟨fun pins s σ H Q I q => ?_⟩
  refine wpAny_mono (h.run pins s σ H _ I q) (fun u s1 hu => ?_) fun _ _ e => e
  obtain ⟨v, H1, I1, r1, b, i, j, rfl, hb, q1⟩ := hu
  exact ⟨.ref b, _, inv_shut I1 hb, r1, q1⟩
end
theorem divP {i j : Int} {b : Nat} (h : 0 < j) (hb : j.natAbs < 2 ^ b) (h0 : 0 < b) (h9 : b ≤ 9000) : CDivP i j :=
  ⟨h, PyProof.noPylong_of_log2 (Nat.lt_of_lt_of_le (PySem.Flt.log2_lt_of h0 hb) h9)⟩
end TH
set_option maxRecDepth 100000
set_option maxHeartbeats 4000000
namespace TH
open PySem L2 Evl
/-! ### data as it lies in the heap, its lists apart from the ones that are being changed (M) -/
mutual
inductive Dt (K : PySem.W.Frag) (M : Addr → Prop) (H : Hp) : V → PyData → Prop
  | non : Dt K M H .non .none
  | bl (b : Bool) : Dt K M H (.bl b) (.bool b)
  | int (i : Int) : Dt K M H (.int i) (.int i)
  | str (x : Str) : Dt K M H (.str x) (.str x)
  | lst {a : Addr} {xs : List V} {ds : List PyData} : H a = some (.lst xs) → ¬ M a → Dts K M H xs ds → Dt K M H (.ref a) (.list ds)
  | tup {a : Addr} {xs : List V} {ds : List PyData} : H a = some (.tup xs) → Dts K M H xs ds → Dt K M H (.ref a) (.tuple ds)
inductive Dts (K : PySem.W.Frag) (M : Addr → Prop) (H : Hp) : List V → List PyData → Prop
  | nil : Dts K M H [] []
  | cons {v : V} {vs : List V} {d : PyData} {ds : List PyData} : Dt K M H v d → Dts K M H vs ds → Dts K M H (v :: vs) (d :: ds)
end
section
variable {K : PySem.W.Frag} {M M' : Addr → Prop} {H H' H1 H2 : Hp}
mutual
/-- data in another heap, lists and tuples kept -/
theorem Dt.move (hl : ∀ a xs, H a = some (.lst xs) → ¬ M a → H' a = some (.lst xs) ∧ ¬ M' a) (ht : ∀ a xs, H a = some (.tup xs) → H' a = some (.tup xs)) : ∀ (d : PyData) (v : V), Dt K M H v d → Dt K M' H' v d
  | .none, _, h => by cases h; exact .non
  | .bool b, _, h => by cases h; exact .bl b
  | .int i, _, h => by cases h; exact .int i
  | .str x, _, h => by cases h; exact .str x
  | .list ds, _, h => by
    cases h with
    | lst h1 h2 h3 => exact .lst (hl _ _ h1 h2).1 (hl _ _ h1 h2).2 (Dts.move hl ht ds _ h3)
  | .tuple ds, _, h => by
    cases h with
    | tup h1 h3 => exact .tup (ht _ _ h1) (Dts.move hl ht ds _ h3)
  | .dict _, _, h => by cases h
theorem Dts.move (hl : ∀ a xs, H a = some (.lst xs) → ¬ M a → H' a = some (.lst xs) ∧ ¬ M' a) (ht : ∀ a xs, H a = some (.tup xs) → H' a = some (.tup xs)) : ∀ (ds : List PyData) (vs : List V), Dts K M H vs ds → Dts K M' H' vs ds
  | [], _, h => by cases h; exact .nil
  | d :: ds, _, h => by
    cases h with
    | cons h1 h2 => exact .cons (Dt.move hl ht d _ h1) (Dts.move hl ht ds _ h2)
end
mutual
theorem Dt.dp : ∀ (d : PyData) (v : V), Dt K M H v d → Dp K H v d
  | .none, _, h => by cases h; exact .non
  | .bool b, _, h => by cases h; exact .bl b
  | .int i, _, h => by cases h; exact .int i
  | .str x, _, h => by cases h; exact .str x
  | .list ds, _, h => by
    cases h with
    | lst h1 h2 h3 => exact .lst (sq_of h1) (Dts.dp ds _ h3)
  | .tuple ds, _, h => by
    cases h with
    | tup h1 h3 => exact .tup (SqT.of h1) (Dts.dp ds _ h3)
  | .dict _, _, h => by cases h
theorem Dts.dp : ∀ (ds : List PyData) (vs : List V), Dts K M H vs ds → DpAll K H vs ds
  | [], _, h => by cases h; exact .nil
  | d :: ds, _, h => by
    cases h with
    | cons h1 h2 => exact .cons (Dt.dp d _ h1) (Dts.dp ds _ h2)
end
theorem Dt.ex {v : V} {d : PyData} (h : Dt K M H v d) (e : Ex H H') : Dt K M H' v d := Dt.move (fun a xs h n => ⟨e _ _ h, n⟩) (fun a xs h => e _ _ h) d v h
theorem Dts.ex {vs : List V} {ds : List PyData} (h : Dts K M H vs ds) (e : Ex H H') : Dts K M H' vs ds := Dts.move (fun a xs h n => ⟨e _ _ h, n⟩) (fun a xs h => e _ _ h) ds vs h
theorem Dt.weak {v : V} {d : PyData} (h : Dt K M H v d) (m : ∀ a, M' a → M a) : Dt K M' H v d := Dt.move (fun a xs h n => ⟨h, fun z => n (m a z)⟩) (fun a xs h => h) d v h
theorem Dts.weak {vs : List V} {ds : List PyData} (h : Dts K M H vs ds) (m : ∀ a, M' a → M a) : Dts K M' H vs ds := Dts.move (fun a xs h n => ⟨h, fun z => n (m a z)⟩) (fun a xs h => h) ds vs h
theorem sqt_upd {a l : Addr} {xs ys : List V} {o : HO} (hl : H l = some (.lst ys)) (h : SqT K H a xs) : SqT K (upd H l o) a xs := by
  have ne : ∀ u, H a = some u → (∀ zs, u ≠ .lst zs) → a ≠ l := fun u h1 h2 z => by
    subst z
    rw [hl] at h1
    exact h2 ys (Option.some.inj h1).symm
  rcases h with (h | ⟨u, h⟩) | h
  · exact .inl (.inl (by rw [upd_ne (ne _ h fun zs z => by cases z)]; exact h))
  · exact .inl (.inr ⟨u, by rw [upd_ne (ne _ h fun zs z => by cases z)]; exact h⟩)
  · exact .inr h
theorem Dt.upd {v : V} {d : PyData} {l : Addr} {ys : List V} {o : HO} (h : Dt K M H v d) (hl : H l = some (.lst ys)) (m : M l) : Dt K M (L2.upd H l o) v d :=
  Dt.move (fun a xs h n => ⟨by rw [upd_ne (show a ≠ l from fun z => n (by rw [z]; exact m))]; exact h, n⟩) (fun a xs h => by rw [upd_ne (ne_of h hl (by intro z; cases z))]; exact h) d v h
theorem Dts.upd {vs : List V} {ds : List PyData} {l : Addr} {ys : List V} {o : HO} (h : Dts K M H vs ds) (hl : H l = some (.lst ys)) (m : M l) : Dts K M (L2.upd H l o) vs ds :=
  Dts.move (fun a xs h n => ⟨by rw [upd_ne (show a ≠ l from fun z => n (by rw [z]; exact m))]; exact h, n⟩) (fun a xs h => by rw [upd_ne (ne_of h hl (by intro z; cases z))]; exact h) ds vs h
theorem Dts.length : ∀ {vs : List V} {ds : List PyData}, Dts K M H vs ds → vs.length = ds.length
  | _, _, .nil => rfl
  | _, _, .cons _ t => by rw [List.length_cons, List.length_cons, Dts.length t]
theorem Dts.get : ∀ {vs : List V} {ds : List PyData} {i : Nat} {v : V}, Dts K M H vs ds → vs[i]? = some v → ∃ d, ds[i]? = some d ∧ Dt K M H v d
  | _, _, _, _, .nil, e => by simp at e
  | _, _, 0, _, .cons r _, e => by simp at e; subst e; exact ⟨_, rfl, r⟩
  | _, _, i + 1, v, .cons _ t, e => by
    obtain ⟨u, h1, h2⟩ := Dts.get (i := i) (v := v) t (by simpa using e)
    exact ⟨u, by simpa using h1, h2⟩
theorem Dts.at : ∀ {vs : List V} {ds : List PyData} {i : Nat} {d : PyData}, Dts K M H vs ds → ds[i]? = some d → ∃ v, vs[i]? = some v ∧ Dt K M H v d
  | _, _, _, _, .nil, e => by simp at e
  | _, _, 0, _, .cons r _, e => by simp at e; subst e; exact ⟨_, rfl, r⟩
  | _, _, i + 1, v, .cons _ t, e => by
    obtain ⟨u, h1, h2⟩ := Dts.at (i := i) (d := v) t (by simpa using e)
    exact ⟨u, by simpa using h1, h2⟩
theorem Dts.append : ∀ {xs ys : List V} {ds es : List PyData}, Dts K M H xs ds → Dts K M H ys es → Dts K M H (xs ++ ys) (ds ++ es)
  | _, _, _, _, .nil, s => s
  | _, _, _, _, .cons r t, s => .cons r (Dts.append t s)
theorem Dts.one {v : V} {d : PyData} (h : Dt K M H v d) : Dts K M H [v] [d] := .cons h .nil
theorem Dts.take : ∀ {xs : List V} {ds : List PyData} (n : Nat), Dts K M H xs ds → Dts K M H (xs.take n) (ds.take n)
  | _, _, 0, _ => .nil
  | _, _, _ + 1, .nil => .nil
  | _, _, n + 1, .cons r t => .cons r (Dts.take n t)
theorem Dts.drop : ∀ {xs : List V} {ds : List PyData} (n : Nat), Dts K M H xs ds → Dts K M H (xs.drop n) (ds.drop n)
  | _, _, 0, r => r
  | _, _, _ + 1, .nil => .nil
  | _, _, n + 1, .cons _ t => Dts.drop n t
theorem Dts.set : ∀ {xs : List V} {ds : List PyData} {v : V} {d : PyData} (i : Nat), Dt K M H v d → Dts K M H xs ds → Dts K M H (xs.set i v) (ds.set i d)
  | _, _, _, _, _, _, .nil => .nil
  | _, _, _, _, 0, r, .cons _ t => .cons r t
  | _, _, _, _, n + 1, r, .cons q t => .cons q (Dts.set n r t)
theorem Dts.reverse : ∀ {xs : List V} {ds : List PyData}, Dts K M H xs ds → Dts K M H xs.reverse ds.reverse
  | _, _, .nil => .nil
  | _, _, .cons r t => by
    rw [List.reverse_cons, List.reverse_cons]
    exact Dts.append (Dts.reverse t) (.one r)
/-- a part of a list -/
def cutG {α : Type} (xs : List α) (lo hi : Option Int) : List α := (xs.drop (HT.sIx xs.length 0 lo)).take (HT.sIx xs.length xs.length hi - HT.sIx xs.length 0 lo)
theorem Dts.cut {xs : List V} {ds : List PyData} {lo hi : Option Int} (h : Dts K M H xs ds) : Dts K M H (cutV xs lo hi) (cutG ds lo hi) := by
  unfold cutV cutG
  rw [h.length]
  exact (h.drop _).take _
theorem Dts.ints : ∀ {vs : List V} (ns : List Int), Dts K M H vs (ns.map PyData.int) → vs = ns.map V.int
  | _, [], .nil => rfl
  | _, n :: ns, .cons (.int _) t => by rw [Dts.ints ns t]; rfl
theorem Dts.strs : ∀ {vs : List V} (ns : List Str), Dts K M H vs (ns.map PyData.str) → vs = ns.map V.str
  | _, [], .nil => rfl
  | _, n :: ns, .cons (.str _) t => by rw [Dts.strs ns t]; rfl
theorem Dts.bls : ∀ {vs : List V} (ns : List Bool), Dts K M H vs (ns.map PyData.bool) → vs = ns.map V.bl
  | _, [], .nil => rfl
  | _, n :: ns, .cons (.bl _) t => by rw [Dts.bls ns t]; rfl
theorem Dts.of_ints : ∀ (ns : List Int), Dts K M H (ns.map V.int) (ns.map PyData.int)
  | [] => .nil
  | n :: ns => .cons (.int n) (Dts.of_ints ns)
theorem Dts.of_strs : ∀ (ns : List Str), Dts K M H (ns.map V.str) (ns.map PyData.str)
  | [] => .nil
  | n :: ns => .cons (.str n) (Dts.of_strs ns)

/-! ### what an expression gives, as data -/
/-- the changing ones are all known -/
def Ok (M : Addr → Prop) (H : Hp) : Prop := ∀ l, M l → H l ≠ none
theorem Ok.ex (h : Ok M H) (e : Ex H H') : Ok M H' := fun l m z => by
  cases q : H l with
  | none => exact h l m q
  | some o =>
    rw [e l o q] at z
    cases z
theorem Ok.new (h : Ok M H) {p : Addr} (n : H p = none) : ¬ M p := fun m => h p m n
def EvP (K : PySem.W.Frag) (M : Addr → Prop) (te : TE) (σ : L2.St) (H : Hp) (P : PyData → Prop) : Prop :=
  ∀ H1, Ex H H1 → ∀ Q : VK, (∀ v d H2, Ex H1 H2 → Dt K M H2 v d → P d → Q v H2) → te σ H1 Q
def EvPA (K : PySem.W.Frag) (M : Addr → Prop) (ta : TA) (σ : L2.St) (H : Hp) (P : List PyData → Prop) : Prop :=
  ∀ H1, Ex H H1 → ∀ Q : List V → Hp → Prop, (∀ vs ds H2, Ex H1 H2 → Dts K M H2 vs ds → P ds → Q vs H2) → ta σ H1 Q
abbrev EvD (K : PySem.W.Frag) (M : Addr → Prop) (te : TE) (σ : L2.St) (H : Hp) (d : PyData) : Prop := EvP K M te σ H (· = d)
abbrev EvDA (K : PySem.W.Frag) (M : Addr → Prop) (ta : TA) (σ : L2.St) (H : Hp) (ds : List PyData) : Prop := EvPA K M ta σ H (· = ds)
end
section
variable {K : PySem.W.Frag} {M : Addr → Prop} {H H' : Hp} {σ : L2.St} {ta tb te tc : TE} {r : R2} {P PA PB : PyData → Prop} {d d1 d2 : PyData}
theorem EvP.use (h : EvP K M te σ H P) {Q : VK} (q : ∀ v d H2, Ex H H2 → Dt K M H2 v d → P d → Q v H2) : te σ H Q := h H (Ex.refl H) Q q
theorem EvP.ex (h : EvP K M te σ H P) (e : Ex H H') : EvP K M te σ H' P := fun H1 e1 => h H1 (e.trans e1)
theorem EvPA.use {ta : TA} {P : List PyData → Prop} (h : EvPA K M ta σ H P) {Q : List V → Hp → Prop} (q : ∀ vs ds H2, Ex H H2 → Dts K M H2 vs ds → P ds → Q vs H2) : ta σ H Q := h H (Ex.refl H) Q q
theorem EvPA.ex {ta : TA} {P : List PyData → Prop} (h : EvPA K M ta σ H P) (e : Ex H H') : EvPA K M ta σ H' P := fun H1 e1 => h H1 (e.trans e1)
theorem EvP.mono (h : EvP K M te σ H P) (k : ∀ d, P d → PA d) : EvP K M te σ H PA := fun H1 e Q q => h H1 e Q fun v d H2 e2 hd hp => q v d H2 e2 hd (k d hp)
/-- data from a value that is known -/
theorem evd_of {v : V} (h : Ev te σ H v) (hd : Dt K M H v d) : EvD K M te σ H d := fun H1 e Q q => h H1 e Q fun H2 e2 => q v d H2 e2 (hd.ex (e.trans e2)) rfl
theorem evd_var {i : Nat} {v : V} (h : σ[i]? = some (some v)) (hd : Dt K M H v d) : EvD K M (tVar i) σ H d := evd_of (ev_var h) hd
theorem evd_int {i : Int} : EvD K M (tC (.int i)) σ H (.int i) := evd_of ev_c (.int i)
theorem evd_str {x : Str} : EvD K M (tC (.str x)) σ H (.str x) := evd_of ev_c (.str x)
theorem evd_bl {b : Bool} : EvD K M (tC (.bl b)) σ H (.bool b) := evd_of ev_c (.bl b)
theorem evd_non : EvD K M (tC .non) σ H .none := evd_of ev_c .non
/-- an operator, by its rule on data -/
theorem evp_op (ha : EvP K M ta σ H PA) (hb : EvP K M tb σ H PB)
    (hr : ∀ x y a b H1, Ex H H1 → Dt K M H1 x a → Dt K M H1 y b → PA a → PB b → ∀ Q : VK, (∀ v d H2, Ex H1 H2 → Dt K M H2 v d → P d → Q v H2) → r x y H1 Q) : EvP K M (tOp r ta tb) σ H P := fun H1 e Q q =>
  ha H1 e _ fun x a H2 e2 dx px => hb H2 (e.trans e2) _ fun y b H3 e3 dy py => hr x y a b H3 ((e.trans e2).trans e3) (dx.ex e3) dy px py Q fun v d H4 e4 dv pv => q v d H4 ((e2.trans e3).trans e4) dv pv
/-- two ints -/
theorem evp_I0 {g : Int → Int → V} (ha : EvP K M ta σ H PA) (hb : EvP K M tb σ H PB) (hg : ∀ a b, PA a → PB b → ∃ i j, a = .int i ∧ b = .int j ∧ ∃ d, P d ∧ ∀ H', Dt K M H' (g i j) d) : EvP K M (tOp (rI0 g) ta tb) σ H P :=
  evp_op ha hb fun x y a b H1 e dx dy px py Q q => by
    obtain ⟨i, j, rfl, rfl, d, pd, hd⟩ := hg a b px py
    cases dx
    cases dy
    exact ⟨i, j, rfl, rfl, q _ d H1 (Ex.refl _) (hd _) pd⟩
theorem evp_I {C : Int → Int → Prop} {g : Int → Int → V} (ha : EvP K M ta σ H PA) (hb : EvP K M tb σ H PB) (hg : ∀ a b, PA a → PB b → ∃ i j, a = .int i ∧ b = .int j ∧ C i j ∧ ∃ d, P d ∧ ∀ H', Dt K M H' (g i j) d) : EvP K M (tOp (rI C g) ta tb) σ H P :=
  evp_op ha hb fun x y a b H1 e dx dy px py Q q => by
    obtain ⟨i, j, rfl, rfl, hc, d, pd, hd⟩ := hg a b px py
    cases dx
    cases dy
    exact ⟨i, j, rfl, rfl, hc, q _ d H1 (Ex.refl _) (hd _) pd⟩
theorem evd_add {i j : Int} (ha : EvD K M ta σ H (.int i)) (hb : EvD K M tb σ H (.int j)) : EvD K M (tOp (rI0 fun i j => .int (i + j)) ta tb) σ H (.int (i + j)) :=
  evp_I0 ha hb fun a b pa pb => ⟨i, j, pa, pb, _, rfl, fun _ => .int _⟩
theorem evd_sub {i j : Int} (ha : EvD K M ta σ H (.int i)) (hb : EvD K M tb σ H (.int j)) : EvD K M (tOp (rI0 fun i j => .int (i - j)) ta tb) σ H (.int (i - j)) :=
  evp_I0 ha hb fun a b pa pb => ⟨i, j, pa, pb, _, rfl, fun _ => .int _⟩
theorem evd_cmp {g : Int → Int → Bool} {i j : Int} (ha : EvD K M ta σ H (.int i)) (hb : EvD K M tb σ H (.int j)) : EvD K M (tOp (rI0 fun i j => .bl (g i j)) ta tb) σ H (.bool (g i j)) :=
  evp_I0 ha hb fun a b pa pb => ⟨i, j, pa, pb, _, rfl, fun _ => .bl _⟩
/-- == of ints, of texts -/
theorem evd_eqI {i j : Int} (ha : EvD K M ta σ H (.int i)) (hb : EvD K M tb σ H (.int j)) : EvD K M (tOp rEq ta tb) σ H (.bool (decide (i = j))) :=
  evp_op ha hb fun x y a b H1 e dx dy px py Q q => by
    subst px py
    cases dx
    cases dy
    refine ⟨rfl, q _ _ H1 (Ex.refl _) (.bl _) ?_⟩
    simp
theorem evd_neI {i j : Int} (ha : EvD K M ta σ H (.int i)) (hb : EvD K M tb σ H (.int j)) : EvD K M (tOp rNe ta tb) σ H (.bool (!decide (i = j))) :=
  evp_op ha hb fun x y a b H1 e dx dy px py Q q => by
    subst px py
    cases dx
    cases dy
    refine ⟨rfl, q _ _ H1 (Ex.refl _) (.bl _) ?_⟩
    simp
theorem evd_eqS {i j : Str} (ha : EvD K M ta σ H (.str i)) (hb : EvD K M tb σ H (.str j)) : EvD K M (tOp rEq ta tb) σ H (.bool (decide (i = j))) :=
  evp_op ha hb fun x y a b H1 e dx dy px py Q q => by
    subst px py
    cases dx
    cases dy
    refine ⟨rfl, q _ _ H1 (Ex.refl _) (.bl _) ?_⟩
    simp
theorem evd_neS {i j : Str} (ha : EvD K M ta σ H (.str i)) (hb : EvD K M tb σ H (.str j)) : EvD K M (tOp rNe ta tb) σ H (.bool (!decide (i = j))) :=
  evp_op ha hb fun x y a b H1 e dx dy px py Q q => by
    subst px py
    cases dx
    cases dy
    refine ⟨rfl, q _ _ H1 (Ex.refl _) (.bl _) ?_⟩
    simp
/-- arguments -/
theorem eva_nil : EvDA K M tNil σ H [] := fun H1 e Q q => q [] [] H1 (Ex.refl _) .nil rfl
theorem evpa_cons {tr : TA} {PR : List PyData → Prop} (ha : EvP K M ta σ H PA) (hr : EvPA K M tr σ H PR) : EvPA K M (tCons ta tr) σ H (fun l => ∃ a ds, l = a :: ds ∧ PA a ∧ PR ds) := fun H1 e Q q =>
  ha H1 e _ fun x a H2 e2 dx px => hr H2 (e.trans e2) _ fun vs ds H3 e3 dv pv => q _ _ H3 (e2.trans e3) (.cons (dx.ex e3) dv) ⟨a, ds, rfl, px, pv⟩
theorem eva_cons {tr : TA} {ds : List PyData} (ha : EvD K M ta σ H d) (hr : EvDA K M tr σ H ds) : EvDA K M (tCons ta tr) σ H (d :: ds) := fun H1 e Q q =>
  ha H1 e _ fun x a H2 e2 dx px => hr H2 (e.trans e2) _ fun vs es H3 e3 dv pv => q _ _ H3 (e2.trans e3) (.cons (dx.ex e3) dv) (by rw [px, pv])
/-- displays -/
theorem evp_tup {t : TA} {PL : List PyData → Prop} (h : EvPA K M t σ H PL) (hl : ∀ ds, PL ds → ds.length ≤ sizeLine) : EvP K M (tTup t) σ H (fun d => ∃ ds, d = .tuple ds ∧ PL ds) := fun H1 e Q q =>
  h H1 e _ fun vs ds H2 e2 dv pv => ⟨by rw [dv.length]; exact hl ds pv, fun p hp => q _ _ _ (e2.trans (Ex.new hp)) (.tup upd_same (dv.ex (Ex.new hp))) ⟨ds, rfl, pv⟩⟩
theorem evd_tup {t : TA} {ds : List PyData} (h : EvDA K M t σ H ds) (hl : ds.length ≤ sizeLine := by decide) : EvD K M (tTup t) σ H (.tuple ds) := fun H1 e Q q =>
  h H1 e _ fun vs es H2 e2 dv pv => ⟨by rw [dv.length, pv]; exact hl, fun p hp => q _ _ _ (e2.trans (Ex.new hp)) (.tup upd_same (dv.ex (Ex.new hp))) (by rw [pv])⟩
theorem evp_lst {t : TA} {PL : List PyData → Prop} (ok : Ok M H) (h : EvPA K M t σ H PL) (hl : ∀ ds, PL ds → ds.length ≤ sizeLine) : EvP K M (tLst t) σ H (fun d => ∃ ds, d = .list ds ∧ PL ds) := fun H1 e Q q =>
  h H1 e _ fun vs ds H2 e2 dv pv => ⟨by rw [dv.length]; exact hl ds pv, fun p hp => q _ _ _ (e2.trans (Ex.new hp)) (.lst upd_same ((ok.ex (e.trans e2)).new hp) (dv.ex (Ex.new hp))) ⟨ds, rfl, pv⟩⟩
theorem evd_lst {t : TA} {ds : List PyData} (ok : Ok M H) (h : EvDA K M t σ H ds) (hl : ds.length ≤ sizeLine := by decide) : EvD K M (tLst t) σ H (.list ds) := fun H1 e Q q =>
  h H1 e _ fun vs es H2 e2 dv pv => ⟨by rw [dv.length, pv]; exact hl, fun p hp => q _ _ _ (e2.trans (Ex.new hp)) (.lst upd_same ((ok.ex (e.trans e2)).new hp) (dv.ex (Ex.new hp))) (by rw [pv])⟩
/-- an item of a list, of a tuple -/
theorem evd_ixL {ds : List PyData} {i : Int} {j : Nat} (ha : EvD K M ta σ H (.list ds)) (hb : EvD K M tb σ H (.int i)) (hi : i = (j : Int)) (hj : ds[j]? = some d) : EvD K M (tOp (rIxL K) ta tb) σ H d :=
  evp_op ha hb fun x y a b H1 e dx dy px py Q q => by
    subst px py
    cases dx with
    | lst h1 h2 h3 =>
      cases dy
      obtain ⟨v, hv, dv⟩ := h3.at hj
      exact ⟨_, _, _, v, rfl, rfl, sq_of h1, by rw [hi]; exact atI_nat hv, q v d H1 (Ex.refl _) dv rfl⟩
theorem evd_ixT {ds : List PyData} {i : Int} {j : Nat} (ha : EvD K M ta σ H (.tuple ds)) (hb : EvD K M tb σ H (.int i)) (hi : i = (j : Int)) (hj : ds[j]? = some d) : EvD K M (tOp (rIxT K) ta tb) σ H d :=
  evp_op ha hb fun x y a b H1 e dx dy px py Q q => by
    subst px py
    cases dx with
    | tup h1 h3 =>
      cases dy
      obtain ⟨v, hv, dv⟩ := h3.at hj
      exact ⟨_, _, _, v, rfl, rfl, SqT.of h1, by rw [hi]; exact atI_nat hv, q v d H1 (Ex.refl _) dv rfl⟩
/-- a part of a list, two lists together, list(..) -/
def EvPO (K : PySem.W.Frag) (M : Addr → Prop) (t : TO) (σ : L2.St) (H : Hp) (o : Option Int) : Prop := ∀ H1, Ex H H1 → ∀ Q : Option Int → Hp → Prop, (∀ H2, Ex H1 H2 → Q o H2) → t σ H1 Q
theorem evo_none : EvPO K M tNoPart σ H none := fun H1 e Q q => q H1 (Ex.refl _)
theorem evo_some {i : Int} (h : EvD K M te σ H (.int i)) : EvPO K M (tPart te) σ H (some i) := fun H1 e Q q =>
  h H1 e _ fun v d H2 e2 dv pd => by
    subst pd
    cases dv
    exact ⟨i, rfl, q H2 e2⟩
theorem evd_slL {ds : List PyData} {tl th : TO} {lo hi : Option Int} (ok : Ok M H) (ha : EvD K M ta σ H (.list ds)) (hl : EvPO K M tl σ H lo) (hh : EvPO K M th σ H hi) : EvD K M (tSl (rSlL K) ta tl th) σ H (.list (cutG ds lo hi)) := fun H1 e Q q =>
  ha H1 e _ fun v d H2 e2 dv pd => hl H2 (e.trans e2) _ fun H3 e3 => hh H3 ((e.trans e2).trans e3) _ fun H4 e4 => by
    subst pd
    cases dv.ex (e3.trans e4) with
    | lst h1 h2 h3 => exact ⟨_, _, rfl, sq_of h1, fun p hp => q _ _ _ (((e2.trans e3).trans e4).trans (Ex.new hp)) (.lst upd_same ((ok.ex (((e.trans e2).trans e3).trans e4)).new hp) (h3.cut.ex (Ex.new hp))) rfl⟩
theorem evd_slS {z : Str} {tl th : TO} {lo hi : Option Int} (ha : EvD K M ta σ H (.str z)) (hz : z.length ≤ sizeLine) (hl : EvPO K M tl σ H lo) (hh : EvPO K M th σ H hi) : EvD K M (tSl (fun x lo hi H Q => ∃ z, x = .str z ∧ z.length ≤ sizeLine ∧ Q (.str (cutS z lo hi)) H) ta tl th) σ H (.str (cutS z lo hi)) := fun H1 e Q q =>
  ha H1 e _ fun v d H2 e2 dv pd => hl H2 (e.trans e2) _ fun H3 e3 => hh H3 ((e.trans e2).trans e3) _ fun H4 e4 => by
    subst pd
    cases dv
    exact ⟨_, rfl, hz, q _ _ H4 ((e2.trans e3).trans e4) (.str _) rfl⟩
theorem evd_cat {ds es : List PyData} (ok : Ok M H) (ha : EvD K M ta σ H (.list ds)) (hb : EvD K M tb σ H (.list es)) (hs : ds.length + es.length ≤ sizeLine) : EvD K M (tOp rCat ta tb) σ H (.list (ds ++ es)) :=
  evp_op ha hb fun x y a b H1 e dx dy px py Q q => by
    subst px py
    cases dx with
    | lst h1 h2 h3 =>
      cases dy with
      | lst k1 k2 k3 => exact ⟨_, _, _, _, rfl, rfl, h1, k1, by rw [h3.length, k3.length]; exact hs, fun p hp => q _ _ _ (Ex.new hp) (.lst upd_same ((ok.ex e).new hp) ((h3.append k3).ex (Ex.new hp))) rfl⟩
theorem evd_addS {i j : Str} (ha : EvD K M ta σ H (.str i)) (hb : EvD K M tb σ H (.str j)) (hs : i.length + j.length ≤ sizeLine) : EvD K M (tOp (fun x y H Q => ∃ i j, x = .str i ∧ y = .str j ∧ i.length + j.length ≤ sizeLine ∧ Q (.str (i ++ j)) H) ta tb) σ H (.str (i ++ j)) :=
  evp_op ha hb fun x y a b H1 e dx dy px py Q q => by
    subst px py
    cases dx
    cases dy
    exact ⟨i, j, rfl, rfl, hs, q _ _ H1 (Ex.refl _) (.str _) rfl⟩
/-- a built-in, an own def -/
theorem evp_cb {r : List V → Hp → VK → Prop} {t : TA} {PL : List PyData → Prop} (h : EvPA K M t σ H PL)
    (hr : ∀ vs ds H1, Ex H H1 → Dts K M H1 vs ds → PL ds → ∀ Q : VK, (∀ v d H2, Ex H1 H2 → Dt K M H2 v d → P d → Q v H2) → r vs H1 Q) : EvP K M (tCB r t) σ H P := fun H1 e Q q =>
  h H1 e _ fun vs ds H2 e2 dv pv => hr vs ds H2 (e.trans e2) dv pv Q fun v d H3 e3 dd pd => q v d H3 (e2.trans e3) dd pd
/-- the promise of a def from data to data -/
def spD (K : PySem.W.Frag) (A : List PyData → Prop) (B : List PyData → PyData → Prop) : Sp := fun vs H Q _ =>
  ∃ (M : Addr → Prop) (ds : List PyData), Ok M H ∧ Dts K M H vs ds ∧ A ds ∧ ∀ v d H', Ex H H' → Dt K M H' v d → B ds d → Q v H'
theorem evp_call {A : List PyData → Prop} {B : List PyData → PyData → Prop} {E : XK} {t : TA} {PL : List PyData → Prop} (ok : Ok M H) (h : EvPA K M t σ H PL) (ha : ∀ ds, PL ds → A ds) : EvP K M (tCall (spD K A B) [] E t) σ H (fun d => ∃ ds, PL ds ∧ B ds d) := fun H1 e Q q =>
  h H1 e _ fun vs ds H2 e2 dv pv => ⟨M, ds, ok.ex (e.trans e2), by rw [List.append_nil]; exact dv, ha ds pv, fun v d H3 e3 dd pd => q v d H3 (e2.trans e3) dd ⟨ds, pv, pd⟩⟩
theorem evd_call {A : List PyData → Prop} {F : List PyData → PyData} {E : XK} {t : TA} {ds : List PyData} (ok : Ok M H) (h : EvDA K M t σ H ds) (ha : A ds) : EvD K M (tCall (spD K A fun ds d => d = F ds) [] E t) σ H (F ds) :=
  (evp_call ok h fun es pe => by rw [pe]; exact ha).mono fun d ⟨es, pe, pd⟩ => by rw [pd, pe]
/-- tests -/
theorem EvT.use {t : TT} {b : Bool} (h : EvT t σ H b) {Q : Bool → Hp → Prop} (q : ∀ H2, Ex H H2 → Q b H2) : t σ H Q := h H (Ex.refl H) Q q
theorem evt_test {b : Bool} (h : EvD K M te σ H (.bool b)) : EvT (tTest te) σ H b := fun H1 e Q q => h H1 e _ fun v d H2 e2 dv pd => by
  subst pd
  cases dv
  exact ⟨b, rfl, q H2 e2⟩
theorem evt_B {b : Bool} (h : EvD K M te σ H (.bool b)) : EvT (tB te) σ H b := fun H1 e Q q => h H1 e _ fun v d H2 e2 dv pd => by
  subst pd
  cases dv
  exact ⟨b, rfl, q H2 e2⟩
theorem evt_yes : EvT tYes σ H true := fun H1 e Q q => q H1 (Ex.refl _)
theorem evd_andV {a b : Bool} (ha : EvD K M ta σ H (.bool a)) (hb : a = true → EvD K M tb σ H (.bool b)) : EvD K M (tAndV ta tb) σ H (.bool (a && b)) := fun H1 e Q q => ha H1 e _ fun v d H2 e2 dv pd => by
  subst pd
  cases dv
  refine ⟨a, rfl, ?_⟩
  cases a with
  | true => exact iteT (hb rfl H2 (e.trans e2) _ fun v d H3 e3 dv pd => q v d H3 (e2.trans e3) dv (by rw [pd]; rfl))
  | false => exact iteF (q _ _ H2 e2 (.bl _) rfl)
theorem evd_orV {a b : Bool} (ha : EvD K M ta σ H (.bool a)) (hb : a = false → EvD K M tb σ H (.bool b)) : EvD K M (tOrV ta tb) σ H (.bool (a || b)) := fun H1 e Q q => ha H1 e _ fun v d H2 e2 dv pd => by
  subst pd
  cases dv
  refine ⟨a, rfl, ?_⟩
  cases a with
  | false => exact iteF (hb rfl H2 (e.trans e2) _ fun v d H3 e3 dv pd => q v d H3 (e2.trans e3) dv (by rw [pd]; rfl))
  | true => exact iteT (q _ _ H2 e2 (.bl _) rfl)
theorem evd_notV {a : Bool} (ha : EvD K M ta σ H (.bool a)) : EvD K M (tNotV ta) σ H (.bool (!a)) := fun H1 e Q q => ha H1 e _ fun v d H2 e2 dv pd => by
  subst pd
  cases dv
  exact ⟨a, rfl, q _ _ H2 e2 (.bl _) rfl⟩
theorem evp_if {t : TT} {b : Bool} (h : EvT t σ H b) (h1 : b = true → EvP K M ta σ H P) (h2 : b = false → EvP K M tb σ H P) : EvP K M (tIf t ta tb) σ H P := fun H1 e Q q => h H1 e _ fun H2 e2 => by
  cases b with
  | true => exact iteT (h1 rfl H2 (e.trans e2) Q fun v d H3 e3 => q v d H3 (e2.trans e3))
  | false => exact iteF (h2 rfl H2 (e.trans e2) Q fun v d H3 e3 => q v d H3 (e2.trans e3))
/-- a chain of two comparisons of ints -/
theorem evd_chainI {g g' : Int → Int → Bool} {i j k : Int} (ha : EvD K M ta σ H (.int i)) (hb : EvD K M tb σ H (.int j)) (hc : EvD K M tc σ H (.int k)) : EvD K M (tChain (rI0 fun i j => .bl (g i j)) (rI0 fun i j => .bl (g' i j)) ta tb tc) σ H (.bool (g i j && g' j k)) := fun H1 e Q q =>
  ha H1 e _ fun x a H2 e2 dx px => hb H2 (e.trans e2) _ fun y b H3 e3 dy py => by
    subst px py
    cases dx
    cases dy
    refine ⟨i, j, rfl, rfl, g i j, rfl, ?_⟩
    cases hg : g i j with
    | false => exact iteF (q _ _ H3 (e2.trans e3) (.bl _) (by rw [hg]; rfl))
    | true => exact iteT (hc H3 ((e.trans e2).trans e3) _ fun z c H4 e4 dz pz => by
        subst pz
        cases dz
        exact ⟨j, k, rfl, rfl, q _ _ H4 ((e2.trans e3).trans e4) (.bl _) (by rw [hg]; rfl)⟩)
end
end TH
set_option maxRecDepth 100000
set_option maxHeartbeats 4000000
namespace TH
open PySem L2 Evl
section
variable {K : PySem.W.Frag} {M : Addr → Prop} {H H1 H' : Hp} {σ : L2.St} {ta tb te tl : TE} {tt : TT} {g : TG} {vs : List Nat}
def more (M : Addr → Prop) (D : Addr) : Addr → Prop := fun a => M a ∨ a = D
theorem Dt.more {v : V} {d : PyData} {D : Addr} (h : Dt K M H v d) (hD : H D = none) : Dt K (TH.more M D) H v d :=
  Dt.move (fun a xs h n => ⟨h, fun z => z.elim n fun e => by rw [e, hD] at h; cases h⟩) (fun a xs h => h) d v h
theorem Dts.more {v : List V} {d : List PyData} {D : Addr} (h : Dts K M H v d) (hD : H D = none) : Dts K (TH.more M D) H v d :=
  Dts.move (fun a xs h n => ⟨h, fun z => z.elim n fun e => by rw [e, hD] at h; cases h⟩) (fun a xs h => h) d v h
theorem more_sub {D : Addr} : ∀ a, M a → TH.more M D a := fun _ h => .inl h
theorem paired_map {α : Type} {F : α → PyData} : ∀ {l : List α} {es : List PyData}, Paired (fun a e => e = F a) l es → es = l.map F
  | _, _, .nil => rfl
  | _, _, .cons h t => by rw [h, paired_map t]; rfl
theorem paired_len {α : Type} {P : α → PyData → Prop} : ∀ {l : List α} {es : List PyData}, Paired P l es → es.length = l.length
  | _, _, .nil => rfl
  | _, _, .cons h t => by rw [List.length_cons, List.length_cons, paired_len t]
theorem paired_mem {α : Type} {P : α → PyData → Prop} : ∀ {l : List α} {es : List PyData}, Paired P l es → ∀ e ∈ es, ∃ a ∈ l, P a e
  | _, _, .nil, e, h => by cases h
  | _, _, .cons h t, e, he => by
    rcases List.mem_cons.mp he with rfl | he
    · exact ⟨_, List.mem_cons_self, h⟩
    · obtain ⟨a, ha, p⟩ := paired_mem t e he
      exact ⟨a, List.mem_cons_of_mem _ ha, p⟩
/-- what a turn of a comprehension gives -/
def Turned (K : PySem.W.Frag) (M : Addr → Prop) (σ : L2.St) (vs : List Nat) (tt : TT) (te : TE) (b : Bool) (P : PyData → Prop) (σ2 : L2.St) (H2 : Hp) : Prop :=
  wipe σ2 vs = wipe σ vs ∧ EvT tt σ2 H2 b ∧ (b = true → EvP K M te σ2 H2 P)
theorem lc_data {α : Type} (L : List α) {J : It} {G : Hp → Prop} {Y : Nat → Hp → V → Hp → Prop} (w : Walk J L.length G Y) {D : Addr} {Qd : Hp → Prop} (ok : Ok M H1) (hD : H1 D = none) (hn : L.length < sizeLine)
    (f : α → Bool) (P : α → PyData → Prop) (hG : ∀ H, Ex H1 H → G H)
    (hs : ∀ (M' : Addr → Prop) (i : Nat) (a : α) (x : V) (H H' : Hp), (∀ v d, Dt K M H1 v d → Dt K M' H1 v d) → Ok M' H → L[i]? = some a → Ex H1 H → Y i H x H' →
      ∀ Qg : L2.St → Hp → Prop, (∀ σ2 H2, Ex H H2 → Turned K M' σ vs tt te (f a) (P a) σ2 H2 → Qg σ2 H2) → g x (wipe σ vs) H' Qg)
    (q : ∀ H es, Ex H1 H → Dt K M H (.ref D) (.list es) → Paired P (L.filter f) es → Qd H) :
    ∃ W : Nat → Nat → Hp → Prop, (∃ m, W 0 m (upd H1 D (.lst []))) ∧ ∀ i m H, W i m H →
      (J.stop i H ∧ Qd H) ∨ (J.go i H ∧ ∃ Nx : Hp → Prop, (∀ H', Nx H' → ∃ m', m' < m ∧ W (i + 1) m' H') ∧ ∀ x H', J.yld i H x H' → g x (wipe σ vs) H' fun σ2 H2 => wipe σ2 vs = wipe σ vs ∧ tt σ2 H2 fun b H3 =>
        if b = true then te σ2 H3 fun y H4 => ∃ acc, H4 D = some (.lst acc) ∧ acc.length < sizeLine ∧ Nx (upd H4 D (.lst (acc ++ [y]))) else Nx H3) := by
  have ok' : ∀ {H}, Ex H1 H → H D ≠ none → Ok (TH.more M D) H := fun {H} e n l m => by
    rcases m with m | rfl
    · exact (ok.ex e) l m
    · exact n
  refine lc_it w (fun i H => Ex H1 H ∧ ∃ acc es, H D = some (.lst acc) ∧ Dts K (TH.more M D) H acc es ∧ Paired P ((L.take i).filter f) es)
    ⟨Ex.new hD, [], [], upd_same, .nil, .nil⟩ (fun i H _ p => hG H p.1) (fun i x H H' hi p y => ?_) (fun H p => ?_)
  · obtain ⟨e, acc, es, hacc, dacc, pr⟩ := p
    obtain ⟨a, ha⟩ : ∃ a, L[i]? = some a := ⟨L[i], List.getElem?_eq_getElem hi⟩
    have tk : L.take (i + 1) = L.take i ++ [a] := by rw [List.take_add_one, ha]; rfl
    refine hs (TH.more M D) i a x H H' (fun v d h => h.more hD) (ok' e (by rw [hacc]; simp)) ha e y _ fun σ2 H2 e2 T => ?_
    obtain ⟨hw, ht, he⟩ := T
    refine ⟨hw, ht H2 (Ex.refl _) _ fun H3 e3 => ?_⟩
    have e03 := e2.trans e3
    have lacc : acc.length ≤ i := by
      rw [dacc.length, paired_len pr]
      refine Nat.le_trans (List.length_filter_le _ _) ?_
      rw [List.length_take]
      exact Nat.min_le_left _ _
    cases hf : f a with
    | true =>
      refine iteT (he hf H3 e3 _ fun y d H4 e4 dy py => ?_)
      refine ⟨acc, e4 _ _ (e03 _ _ hacc), Nat.lt_of_le_of_lt lacc (Nat.lt_trans hi hn), ?_, acc ++ [y], es ++ [d], upd_same, ?_, ?_⟩
      · exact Ex.mut ((e.trans e03).trans e4) hD
      · exact (((dacc.ex (e03.trans e4))).append (.one dy)).upd (e4 _ _ (e03 _ _ hacc)) (.inr rfl)
      · rw [tk, List.filter_append, List.filter_cons, hf, if_pos rfl]
        exact Paired.snoc pr py
    | false =>
      refine iteF ⟨e.trans e03, acc, es, e03 _ _ hacc, dacc.ex e03, ?_⟩
      rw [tk, List.filter_append, List.filter_cons, hf]
      simpa using pr
  · obtain ⟨e, acc, es, hacc, dacc, pr⟩ := p
    rw [List.take_length] at pr
    exact q H es e (.lst hacc (ok.new hD) (dacc.weak more_sub)) pr
/-- over a list -/
theorem evp_lcL {ds : List PyData} (f : PyData → Bool) (P : PyData → PyData → Prop) (ok : Ok M H) (hl : EvD K M tl σ H (.list ds)) (hz : ds.length < sizeLine)
    (hs : ∀ (M' : Addr → Prop) (d : PyData) (x : V) (H' : Hp), (∀ v d, Dt K M H v d → Dt K M' H' v d) → Ok M' H' → d ∈ ds → Ex H H' → Dt K M' H' x d →
      ∀ Qg : L2.St → Hp → Prop, (∀ σ2 H2, Ex H' H2 → Turned K M' σ vs tt te (f d) (P d) σ2 H2 → Qg σ2 H2) → g x (wipe σ vs) H' Qg) :
    EvP K M (tLc (iList K tl) g tt te vs) σ H (fun d => ∃ es, d = .list es ∧ Paired P (ds.filter f) es) := fun H0 e Q q =>
  hl H0 e _ fun v d H1 e1 dv pd => by
    subst pd
    cases dv with
    | lst h1 h2 h3 =>
      rename_i a xs
      refine ⟨a, rfl, ⟨xs, sq_of h1⟩, fun D hD => ?_⟩
      have hw : Walk (Itl K a) ds.length (fun H => SqL K H a xs) (YAt xs) := by
        rw [← h3.length]
        exact walk_list
      refine lc_data (σ := σ) (vs := vs) ds hw ((ok.ex (e.trans e1))) hD hz f P (fun H e => sq_of (e _ _ h1)) (fun M' i d x H2 H' hm ok' hd e2 y Qg qg => ?_) (fun H2 es e2 dd pr => q _ _ H2 (e1.trans e2) dd ⟨es, rfl, pr⟩)
      obtain ⟨rfl, hx⟩ := y
      obtain ⟨d', hd', dx⟩ := h3.get hx
      rw [hd] at hd'
      cases hd'
      exact hs M' d x _ (fun v d h => (hm v d (h.ex (e.trans e1))).ex e2) ok' (List.mem_of_getElem? hd) ((e.trans e1).trans e2) ((hm _ _ dx).ex e2) Qg qg
theorem evd_lcL {ds : List PyData} (f : PyData → Bool) (F : PyData → PyData) (ok : Ok M H) (hl : EvD K M tl σ H (.list ds)) (hz : ds.length < sizeLine)
    (hs : ∀ (M' : Addr → Prop) (d : PyData) (x : V) (H' : Hp), (∀ v d, Dt K M H v d → Dt K M' H' v d) → Ok M' H' → d ∈ ds → Ex H H' → Dt K M' H' x d →
      ∀ Qg : L2.St → Hp → Prop, (∀ σ2 H2, Ex H' H2 → Turned K M' σ vs tt te (f d) (· = F d) σ2 H2 → Qg σ2 H2) → g x (wipe σ vs) H' Qg) :
    EvD K M (tLc (iList K tl) g tt te vs) σ H (.list ((ds.filter f).map F)) :=
  (evp_lcL f (fun d e => e = F d) ok hl hz hs).mono fun d ⟨es, e, pr⟩ => by rw [e, paired_map pr]
/-- over a text -/
theorem evp_lcS {z : Str} (f : Nat → Bool) (P : Nat → PyData → Prop) (ok : Ok M H) (hl : EvD K M tl σ H (.str z)) (hz : z.length < sizeLine)
    (hs : ∀ (M' : Addr → Prop) (c : Nat) (H' : Hp), (∀ v d, Dt K M H v d → Dt K M' H' v d) → Ok M' H' → c ∈ z.cps.toList → Ex H H' →
      ∀ Qg : L2.St → Hp → Prop, (∀ σ2 H2, Ex H' H2 → Turned K M' σ vs tt te (f c) (P c) σ2 H2 → Qg σ2 H2) → g (.str ⟨#[c]⟩) (wipe σ vs) H' Qg) :
    EvP K M (tLc (iStr tl) g tt te vs) σ H (fun d => ∃ es, d = .list es ∧ Paired P (z.cps.toList.filter f) es) := fun H0 e Q q =>
  hl H0 e _ fun v d H1 e1 dv pd => by
    subst pd
    cases dv
    refine ⟨z, rfl, fun D hD => ?_⟩
    have hw : Walk (Its z) z.cps.toList.length (fun _ => True) (fun i H v H' => H' = H ∧ ∃ c, z.cps[i]? = some c ∧ v = .str ⟨#[c]⟩) := by
      rw [Array.length_toList]
      exact walk_str
    refine lc_data (σ := σ) (vs := vs) z.cps.toList hw ((ok.ex (e.trans e1))) hD (by rw [Array.length_toList]; exact hz) f P (fun H e => trivial) (fun M' i d x H2 H' hm ok' hd e2 y Qg qg => ?_) (fun H2 es e2 dd pr => q _ _ H2 (e1.trans e2) dd ⟨es, rfl, pr⟩)
    obtain ⟨rfl, c, hc, rfl⟩ := y
    have ec : c = d := by
      rw [Array.getElem?_toList, hc] at hd
      exact Option.some.inj hd
    subst ec
    exact hs M' c _ (fun v d h => (hm v d (h.ex (e.trans e1))).ex e2) ok' (Array.mem_toList_iff.mpr (Array.mem_of_getElem? hc)) ((e.trans e1).trans e2) Qg qg
theorem evd_lcS {z : Str} (f : Nat → Bool) (F : Nat → PyData) (ok : Ok M H) (hl : EvD K M tl σ H (.str z)) (hz : z.length < sizeLine)
    (hs : ∀ (M' : Addr → Prop) (c : Nat) (H' : Hp), (∀ v d, Dt K M H v d → Dt K M' H' v d) → Ok M' H' → c ∈ z.cps.toList → Ex H H' →
      ∀ Qg : L2.St → Hp → Prop, (∀ σ2 H2, Ex H' H2 → Turned K M' σ vs tt te (f c) (· = F c) σ2 H2 → Qg σ2 H2) → g (.str ⟨#[c]⟩) (wipe σ vs) H' Qg) :
    EvD K M (tLc (iStr tl) g tt te vs) σ H (.list ((z.cps.toList.filter f).map F)) :=
  (evp_lcS f (fun d e => e = F d) ok hl hz hs).mono fun d ⟨es, e, pr⟩ => by rw [e, paired_map pr]
/-- over range(n) -/
theorem evp_lcR {ta : TA} {PN : Int → Prop} (f : Nat → Bool) (P : Nat → PyData → Prop) (ok : Ok M H) (hl : EvPA K M ta σ H (fun l => ∃ n : Int, l = [.int n] ∧ PN n)) (hz : ∀ n, PN n → 0 ≤ n ∧ n ≤ 100000)
    (hs : ∀ (M' : Addr → Prop) (n : Int) (i : Nat) (H' : Hp), (∀ v d, Dt K M H v d → Dt K M' H' v d) → Ok M' H' → PN n → (i : Int) < n → Ex H H' →
      ∀ Qg : L2.St → Hp → Prop, (∀ σ2 H2, Ex H' H2 → Turned K M' σ vs tt te (f i) (P i) σ2 H2 → Qg σ2 H2) → g (.int (i : Int)) (wipe σ vs) H' Qg) :
    EvP K M (tLc (iRng1 ta) g tt te vs) σ H (fun d => ∃ (n : Int) (es : List PyData), PN n ∧ d = .list es ∧ Paired P ((List.range n.toNat).filter f) es) := fun H0 e Q q =>
  hl H0 e _ fun us ds H1 e1 dv pd => by
    obtain ⟨n, rfl, pn⟩ := pd
    have hz := hz n pn
    cases dv with
    | cons h1 h2 =>
      cases h1
      cases h2
      refine ⟨n, rfl, by omega, by omega, fun D hD => ?_⟩
      have hw : Walk (Itr 0 n.toNat) (List.range n.toNat).length (fun _ => True) (YFn fun i => .int (0 + i)) := by
        rw [List.length_range]
        exact walk_range
      refine lc_data (σ := σ) (vs := vs) (List.range n.toNat) hw ((ok.ex (e.trans e1))) hD (by rw [List.length_range]; exact Nat.lt_of_le_of_lt (show n.toNat ≤ 100000 by omega) (by decide)) f P (fun H e => trivial) (fun M' i d x H2 H' hm ok' hd e2 y Qg qg => ?_) (fun H2 es e2 dd pr => q _ _ H2 (e1.trans e2) dd ⟨n, es, pn, rfl, pr⟩)
      obtain ⟨h1, h2⟩ := List.getElem?_eq_some_iff.mp hd
      rw [List.getElem_range] at h2
      rw [List.length_range] at h1
      subst h2
      obtain ⟨rfl, rfl⟩ := y
      show g (V.int (0 + (i : Int))) (wipe σ vs) _ Qg
      rw [Int.zero_add]
      exact hs M' n i _ (fun v d h => (hm v d (h.ex (e.trans e1))).ex e2) ok' pn (by omega) ((e.trans e1).trans e2) Qg qg
end
/-! ### rules by the written part's own letter, for a comprehension's block -/
section
variable {X : Cx} {K : PySem.W.Frag}
theorem ix_tupK (h : X.K = K) : IxR X (rIxT K) := by
  subst h
  exact ix_tup
theorem ix_listK (h : X.K = K) : IxR X (rIxL K) := by
  subst h
  exact ix_list
theorem sl_listK (h : X.K = K) : SlR X (rSlL K) := by
  subst h
  exact sl_list
theorem pi_listK {tg l : Expr} {tl : TE} (h : X.K = K) (hl : PE X l tl) : PI X tg l (iList K tl) := by
  subst h
  exact pi_list hl
theorem op_notIn_seqK (h : X.K = K) : OpR X (compareOp .NotIn) (rIn K true) := by
  subst h
  exact op_notIn_seq
theorem op_in_seqK (h : X.K = K) : OpR X (compareOp .In) (rIn K false) := by
  subst h
  exact op_in_seq
end
/-! ### statements -/
section
variable {K : PySem.W.Frag} {M : Addr → Prop} {H H' : Hp} {σ : L2.St} {te : TE} {P : PyData → Prop} {D : Ends} {tz : TS}
theorem s_retP (h : EvP K M te σ H P) (k : ∀ v d H1, Ex H H1 → Dt K M H1 v d → P d → D.rt v H1) : tRet te D σ H := h.use k
theorem q_asgP {i : Nat} (h : EvP K M te σ H P) (k : ∀ v d H1, Ex H H1 → Dt K M H1 v d → P d → tz D (σ.set i (some v)) H1) : tSeq (tAsg te (gName i)) tz D σ H := h.use k
theorem s_asgP {i : Nat} (h : EvP K M te σ H P) (k : ∀ v d H1, Ex H H1 → Dt K M H1 v d → P d → D.nx (σ.set i (some v)) H1) : tAsg te (gName i) D σ H := h.use k
theorem s_dropP (h : EvP K M te σ H P) (k : ∀ v d H1, Ex H H1 → Dt K M H1 v d → P d → D.nx σ H1) : tDrop te D σ H := h.use k
theorem q_dropP (h : EvP K M te σ H P) (k : ∀ v d H1, Ex H H1 → Dt K M H1 v d → P d → tz D σ H1) : tSeq (tDrop te) tz D σ H := h.use k
end
end TH
set_option maxRecDepth 100000
set_option maxHeartbeats 4000000
namespace TH
open PySem PySem.Spec PyProof.Rows L2 Evl PpSet
/-! ### {elt for target in iter}, the members ints -/
section
variable {X : Cx}
/-- one turn of the block: the member goes into the set at D -/
def SetTurnO (w : World) (D : Addr) (σ0 : L2.St) (vs : List Nat) (tt : TT) (te : TE) (Nx : Hp → Prop) (σ2 : L2.St) (H2 : Hp) : Prop :=
  wipe σ2 vs = wipe σ0 vs ∧ tt σ2 H2 fun b H3 =>
    if b = true then te σ2 H3 fun y H4 =>
      ∃ (k : Int) (S : Int → Bool) (n : Nat), y = .int k ∧ H4 D = some (SetO w D S n) ∧ n + 1 < scanBound ∧
        Nx (upd H4 D (SetO w D (fun j => S j || decide (j = k)) (if S k = true then n else n + 1)))
    else Nx H3
def tScO (w : World) (wi : TI) (g : TG) (tt : TT) (te : TE) (vs : List Nat) : TE := fun σ H Q =>
  wi σ H fun J H1 => ∀ D, H1 D = none → ∃ W : Nat → Nat → Hp → Prop,
    (∃ m, W 0 m (upd H1 D (SetO w D (fun _ => false) 0))) ∧
    ∀ i m H, W i m H → (J.stop i H ∧ Q (.ref D) H) ∨
      (J.go i H ∧ ∃ Nx : Hp → Prop, (∀ H', Nx H' → ∃ m', m' < m ∧ W (i + 1) m' H') ∧
        ∀ x H', J.yld i H x H' → g x (wipe σ vs) H' (SetTurnO w D σ vs tt te Nx))
/-- the member is added, within any context -/
theorem addO_ok {Y : Cx} {pins : List (Addr × Obj)} {σ : L2.St} {G : Hp} {s : Shared} {D : Addr} {S : Int → Bool} {n : Nat} {k : Int} {u : Value} {Q E : Value → Shared → Prop}
    (I : Inv Y pins σ G s) (hD : G D = some (SetO Y.w D S n)) (ru : RelV (.int k) u) (room : n + 1 < scanBound)
    (h : ∀ v s', Inv Y pins σ (upd G D (SetO Y.w D (fun j => S j || decide (j = k)) (if S k = true then n else n + 1))) s' → Q v s') :
    wpAny (model Y.prog Y.w) Y.A (call (.builtin "set.add") [.ref D, u]) Q E s := by
  obtain ⟨tk, rfl⟩ := ru
  refine setR_add (setO_get I hD) room fun hp' same born => ?_
  have there : ∃ o, hp'.get? D = some o := by
    obtain ⟨o, _, _, _, ho, _⟩ := id born
    exact ⟨o, ho⟩
  exact h _ _ (I.write (e := D) (t' := s.toks + 1) (by rw [hD]; trivial) (.inl rfl) (fun b o hb ho => (same.2 b hb).trans ho) there (setO_new born))
theorem setO_start {G : Hp} {s : Shared} {pins : List (Addr × Obj)} {σ : L2.St} (I : Inv X pins σ G s) :
    Inv X pins σ (upd G s.heap.objs.size (SetO X.w s.heap.objs.size (fun _ => false) 0))
      { s with heap := s.heap.push { cls := .type "set", dict := none, data := .set #[] 0 (.fresh 0 0 (!X.w.params.followText "set-order")) } } :=
  I.laid (t' := s.toks) (fun b u q => Heap.get?_push_of_some _ q) (Nat.le_refl _) (setO_new (setR_fresh X.w))
theorem pe_scO {elt tg iter : Expr} {ifs : List Expr} {scope : Scope} {own : List (Str × Nat)} {pos : Pos} {wi : TI} {g : TG} {tt : TT} {te : TE}
    (calm : X.calm = true) (nodup : X.N.Nodup) (src : PI X tg iter wi) (blk : BlkOk X.N X.env.scope scope own)
    (ptg : ∀ (s : Shared) (G : Hp) (C : Addr) (cl : List (Str × Addr)) (fp : List Addr), PG (X.blk s G scope (compEnvC scope cl C X.env) fp) tg g)
    (pif : ∀ (s : Shared) (G : Hp) (C : Addr) (cl : List (Str × Addr)) (fp : List Addr), PTs (X.blk s G scope (compEnvC scope cl C X.env) fp) ifs tt)
    (pel : ∀ (s : Shared) (G : Hp) (C : Addr) (cl : List (Str × Addr)) (fp : List Addr), PE (X.blk s G scope (compEnvC scope cl C X.env) fp) elt te)
    (fold : ∀ x, foldedSetIterable iter X.env x = pure x := by intro _; rfl) :
    PE X (.SetComp elt [⟨tg, iter, ifs, 0⟩] scope pos) (tScO X.w wi g tt te (own.map (·.2))) := by
  refine ⟨fun pins s σ G Q I wish => ?_⟩
  rw [eval_SetComp]
  have caught : ∀ y ∈ scope.names, y.2 = .free → ∃ c, X.env.cells.lookup y.1 = some c := by
    intro y hy hf
    cases blk.free y hy hf with
    | inl z => exact I.ok.has _ (.inl z)
    | inr z => exact I.ok.has _ (.inr z)
  refine wpAny_comprehension_free rfl fold (closure_ok caught) blk.kind (fun y hy z => by rw [blk.uniq y hy, z]) ?_
  refine thn (src.run pins s σ G _ I wish) fun seqv sA hA => thn hA fun itv sB hB => ?_
  obtain ⟨it, fp, turnAt, J, GB, eit, IB, TT, stB, fpB, hq⟩ := hB
  subst eit
  refine newSet_ok (newEnv_comp ?_)
  have fresh : GB sB.heap.objs.size = none := IB.hok.fresh (Nat.le_refl _)
  have IC := setO_start IB
  revert fresh IC
  generalize eD : sB.heap.objs.size = D
  intro fresh IC
  obtain ⟨W, ⟨m0, w0⟩, steps⟩ := hq D fresh
  revert IC
  generalize eC : ({ sB with heap := sB.heap.push { cls := .type "set", dict := none, data := .set #[] 0 (.fresh 0 0 (!X.w.params.followText "set-order")) } } : Shared) = sC
  generalize eG : upd GB D (SetO X.w D (fun _ => false) 0) = GC at w0
  intro IC
  have grown : ∀ b o, sB.heap.get? b = some o → sC.heap.get? b = some o := by
    intro b o q
    rw [← eC]
    exact Heap.get?_push_of_some _ q
  have small : ∀ b ∈ fp, b < sB.heap.objs.size := by
    intro b hb
    obtain ⟨o, q, _⟩ := TT.obj _ _ stB b hb
    exact Heap.lt_size q
  have fpC : ∀ b ∈ fp, FpOk X pins GC b ∧ b < sC.heap.objs.size := by
    intro b hb
    have lt := small b hb
    constructor
    · refine ⟨?_, (fpB b hb).2⟩
      rw [← eG, upd_ne (by rw [← eD]; exact Nat.ne_of_lt lt)]
      exact (fpB b hb).1
    · rw [← eC]
      show b < (sB.heap.push _).objs.size
      rw [Heap.size_push]
      exact Nat.lt_succ_of_lt lt
  have stC : turnAt 0 sC.heap := TT.keep _ _ _ stB fun b _ o q => grown b o q
  have ID := block_start IC blk nodup fpC
  have tgD := ptg sC GC sC.heap.objs.size (cellsFrom (sC.heap.objs.size + 1) scope.names (cloFrom X.env.cells scope.names [])) fp
  have ifD := pif sC GC sC.heap.objs.size (cellsFrom (sC.heap.objs.size + 1) scope.names (cloFrom X.env.cells scope.names [])) fp
  have elD := pel sC GC sC.heap.objs.size (cellsFrom (sC.heap.objs.size + 1) scope.names (cloFrom X.env.cells scope.names [])) fp
  have post : ∀ (s' : Shared) (m : Str → Option Value) (G' : Hp), Inv X pins σ G' s' → Q (.ref D) G' → s'.heap.Ns sC.heap.objs.size m → FpOk X pins G' sC.heap.objs.size →
      compPost (model X.prog X.w) X.A X.xe none (EP X pins σ Q) (.ref D) sC.heap.objs.size (.ok .next) s' := by
    intro s' m G' I' q hn hf
    refine ⟨m, hn, fun h'' same => ?_⟩
    obtain ⟨f0, f1, f2, f3, f4, f5⟩ := hf
    exact ⟨.ref D, G', I'.turned (t' := s'.toks) (fun b o hb z => (same.2 b hb).trans z) f0 f1 f3 f4 f5, rfl, q⟩
  show codeAny _ _ (.compStart (.SetComp elt [⟨tg, iter, ifs, 0⟩] scope pos) 0 (.ref it) (.ref D) (compEnvC scope (cellsFrom (sC.heap.objs.size + 1) scope.names (cloFrom X.env.cells scope.names [])) sC.heap.objs.size X.env))
    (compPost (model X.prog X.w) X.A X.xe none (EP X pins σ Q) (.ref D) sC.heap.objs.size) { sC with heap := pushCells (sC.heap.push { cls := .type "dict", data := .dict #[] }) scope.names }
  have none_fp : ∀ b ∈ fp, GC b = none := fun b hb => (fpC b hb).1.1
  revert ID tgD ifD elD
  generalize eE : compEnvC scope (cellsFrom (sC.heap.objs.size + 1) scope.names (cloFrom X.env.cells scope.names [])) sC.heap.objs.size X.env = cenv
  have locals : cenv.locals = sC.heap.objs.size := by
    rw [← eE]
    rfl
  generalize eS : ({ sC with heap := pushCells (sC.heap.push { cls := .type "dict", data := .dict #[] }) scope.names } : Shared) = sD
  intro ID tgD ifD elD
  have stD : turnAt 0 sD.heap := by
    refine TT.keep _ _ _ stC fun b _ o q => ?_
    rw [← eS]
    exact pushCells_keeps _ _ _ _ (Heap.get?_push_of_some _ q)
  have steady : ∀ {σ' : L2.St} {G' : Hp} {s' : Shared}, Inv (X.blk sC GC scope cenv fp) [] σ' G' s' → (∀ b ∈ fp, G' b = none) → ∀ b ∈ fp, FpOk (X.blk sC GC scope cenv fp) [] G' b := by
    intro σ' G' s' I' hn b hb
    refine ⟨hn b hb, (I'.ok.exf b hb).1, I'.ok.exfs b hb, .inl hb, fun x c => (I'.ok.exf b hb).2 x c, fun p hp => ?_⟩
    exact absurd (show p ∈ ([] : List (Addr × Obj)) ++ [] from hp) (by simp)
  have loop : codeAny (model X.prog X.w) X.A (.compLoop (.SetComp elt [⟨tg, iter, ifs, 0⟩] scope pos) 0 (.ref it) (.ref D) cenv)
      (compPost (model X.prog X.w) X.A X.xe none (EP X pins σ Q) (.ref D) sC.heap.objs.size) sD := by
    refine compLoopS_any (fun n s' => ∃ i G', Inv (X.blk sC GC scope cenv fp) [] (wipe σ (own.map (·.2))) G' s' ∧ turnAt i s'.heap ∧ (∀ b ∈ fp, G' b = none) ∧ W i n G') ?_ m0 ⟨0, GC, ID, stD, none_fp, w0⟩
    rintro n s5 ⟨i, G5, I5, st5, n5, w5⟩
    cases steps i n G5 w5 with
    | inl done =>
      obtain ⟨stop, hq⟩ := done
      refine thnF (TT.done (X.blk sC GC scope cenv fp) rfl rfl rfl calm i [] s5 _ G5 (fun _ _ => False) I5 (steady I5 n5) st5 stop) fun r s6 ⟨hr, I6⟩ => ?_
      subst hr
      have I7 : Inv X pins σ G5 s6 := IC.call' (ch := fp) I6.os I6.base I6.hok I6.bare fun b hb =>
        ⟨(fpC b hb).1.2.2.2.1, (fpC b hb).1.2.1, (fpC b hb).1.2.2.2.2.1, (fpC b hb).1.2.2.2.2.2⟩
      have gone : G5 sC.heap.objs.size = none := by
        rw [← locals]
        exact I6.free
      obtain ⟨m, hn, _⟩ := I6.loc
      refine post s6 m G5 I7 hq ?_ (IC.fpOk (Nat.le_refl _) gone)
      rw [← locals]
      exact hn
    | inr more =>
      obtain ⟨go, Nx, hNx, step⟩ := more
      refine thnF (TT.item (X.blk sC GC scope cenv fp) rfl rfl rfl calm i [] s5 _ G5 (fun _ _ => False) I5 (steady I5 n5) st5 go) fun r s6 ⟨u, hr, h6⟩ => ?_
      subst hr
      refine thnF h6 fun _ s7 ⟨x, G7, I7, r7, y7, st7, n7⟩ => ?_
      refine thnF (tgD.run _ s7 _ G7 x u _ (I7.pinned (steady I7 n7) (TT.obj _ _ st7)) r7 (step x G7 y7)) fun _ s8 ⟨σ8, G8, I8, hw, q8⟩ => ?_
      refine thnF (ifD.run _ s8 σ8 G8 _ I8 q8) fun b s9 ⟨G9, I9, q9⟩ => ?_
      have back : ∀ {s' : Shared} {G' : Hp}, Inv (X.blk sC GC scope cenv fp) ([] ++ pinsAt fp s7.heap) σ8 G' s' → Nx G' →
          ∃ m, m < n ∧ ∃ i G', Inv (X.blk sC GC scope cenv fp) [] (wipe σ (own.map (·.2))) G' s' ∧ turnAt i s'.heap ∧ (∀ b ∈ fp, G' b = none) ∧ W i m G' := by
        intro s' G' I' nx
        obtain ⟨m', hm, w'⟩ := hNx G' nx
        have pinned : ∀ b ∈ fp, ∀ o, s7.heap.get? b = some o → s'.heap.get? b = some o ∧ G' b = none := by
          intro b hb o q
          have z := I'.pin (b, o) (List.mem_append_right _ (List.mem_append_right _ (mem_pinsAt hb q)))
          exact ⟨z.1, z.2.1⟩
        have len : (wipe σ (own.map (·.2))).length = σ8.length := by rw [← hw, wipe_length]
        refine ⟨m', hm, i + 1, G', (I'.unpinned (pins := [])).weak len ?_, TT.keep _ _ _ st7 fun b hb o q => (pinned b hb o q).1, fun b hb => ?_, w'⟩
        · intro j v q
          rw [← hw] at q
          exact (wipe_some q).1
        · obtain ⟨o, q, _⟩ := TT.obj _ _ st7 b hb
          exact (pinned b hb o q).2
      cases b with
      | false => exact back I9 q9
      | true =>
        show wpAny _ _ _ _ _ _
        refine thnF (elD.run _ s9 σ8 G9 _ I9 q9) fun z s10 ⟨yv, G10, I10, r10, k, S0, n0, ey, hD10, room, nx⟩ => ?_
        subst ey
        exact addO_ok (Y := X.blk sC GC scope cenv fp) I10 hD10 r10 room fun v s11 I11 => back I11 nx
  exact codeAny_compStart_set loop (TT.self X.A 0 _ _ _ stD loop)
end
end TH
set_option maxRecDepth 100000
set_option maxHeartbeats 4000000
namespace TH
open PySem PySem.Spec PyProof.Rows L2 Evl PpSet
/-! ### {elt for target in iter}, the members ints or texts -/
section
variable {X : Cx}
/-- one turn of the block: the member goes into the set at D -/
def SetTurn (P : Program) (w : World) (D : Addr) (σ0 : L2.St) (vs : List Nat) (tt : TT) (te : TE) (Nx : Hp → Prop) (σ2 : L2.St) (H2 : Hp) : Prop :=
  wipe σ2 vs = wipe σ0 vs ∧ tt σ2 H2 fun b H3 =>
    if b = true then te σ2 H3 fun y H4 =>
      ∃ (k : Key) (S : Key → Bool) (n : Nat), y = kV k ∧ H4 D = some (SetK P w D S n) ∧ n + 1 < scanBound ∧
        Nx (upd H4 D (SetK P w D (fun j => S j || decide (j = k)) (if S k = true then n else n + 1)))
    else Nx H3
def tScK (P : Program) (w : World) (wi : TI) (g : TG) (tt : TT) (te : TE) (vs : List Nat) : TE := fun σ H Q =>
  wi σ H fun J H1 => ∀ D, H1 D = none → ∃ W : Nat → Nat → Hp → Prop,
    (∃ m, W 0 m (upd H1 D (SetK P w D (fun _ => false) 0))) ∧
    ∀ i m H, W i m H → (J.stop i H ∧ Q (.ref D) H) ∨
      (J.go i H ∧ ∃ Nx : Hp → Prop, (∀ H', Nx H' → ∃ m', m' < m ∧ W (i + 1) m' H') ∧
        ∀ x H', J.yld i H x H' → g x (wipe σ vs) H' (SetTurn P w D σ vs tt te Nx))
/-- the member is added, within any context -/
theorem addK_ok {Y : Cx} {pins : List (Addr × Obj)} {σ : L2.St} {G : Hp} {s : Shared} {D : Addr} {S : Key → Bool} {n : Nat} {k : Key} {u : Value} {Q E : Value → Shared → Prop}
    (I : Inv Y pins σ G s) (hD : G D = some (SetK Y.prog Y.w D S n)) (ru : RelV (kV k) u) (room : n + 1 < scanBound)
    (h : ∀ v s', Inv Y pins σ (upd G D (SetK Y.prog Y.w D (fun j => S j || decide (j = k)) (if S k = true then n else n + 1))) s' → Q v s') :
    wpAny (model Y.prog Y.w) Y.A (call (.builtin "set.add") [.ref D, u]) Q E s := by
  refine call_set_add (kV_is ru) (key_scan ru) (setK_get I hD) room fun hp' same born => ?_
  have there : ∃ o, hp'.get? D = some o := by
    obtain ⟨o, _, _, _, ho, _⟩ := id born
    exact ⟨o, ho⟩
  exact h _ _ (I.write (e := D) (t' := s.toks + 1) (by rw [hD]; trivial) (.inl rfl) (fun b o hb ho => (same.2 b hb).trans ho) there (setK_new born))
theorem setK_start {G : Hp} {s : Shared} {pins : List (Addr × Obj)} {σ : L2.St} (I : Inv X pins σ G s) :
    Inv X pins σ (upd G s.heap.objs.size (SetK X.prog X.w s.heap.objs.size (fun _ => false) 0))
      { s with heap := s.heap.push { cls := .type "set", dict := none, data := .set #[] 0 (.fresh 0 0 (!X.w.params.followText "set-order")) } } := by
  have born : (s.heap.push { cls := .type "set", dict := none, data := .set #[] 0 (.fresh 0 0 (!X.w.params.followText "set-order")) }).SetOf (mixKind X.prog X.w) s.heap.objs.size (fun _ => false) 0 := by
    refine ⟨_, #[], 0, _, Heap.get?_push_size _ rfl, ⟨rfl, rfl, rfl⟩, rfl, ?_, ?_, by decide, by rfl, rfl⟩
    · intro e he
      simp at he
    · intro k
      simp
  exact I.laid (t' := s.toks) (fun b u q => Heap.get?_push_of_some _ q) (Nat.le_refl _) (setK_new born)
theorem pe_scK {elt tg iter : Expr} {ifs : List Expr} {scope : Scope} {own : List (Str × Nat)} {pos : Pos} {wi : TI} {g : TG} {tt : TT} {te : TE}
    (calm : X.calm = true) (nodup : X.N.Nodup) (src : PI X tg iter wi) (blk : BlkOk X.N X.env.scope scope own)
    (ptg : ∀ (s : Shared) (G : Hp) (C : Addr) (cl : List (Str × Addr)) (fp : List Addr), PG (X.blk s G scope (compEnvC scope cl C X.env) fp) tg g)
    (pif : ∀ (s : Shared) (G : Hp) (C : Addr) (cl : List (Str × Addr)) (fp : List Addr), PTs (X.blk s G scope (compEnvC scope cl C X.env) fp) ifs tt)
    (pel : ∀ (s : Shared) (G : Hp) (C : Addr) (cl : List (Str × Addr)) (fp : List Addr), PE (X.blk s G scope (compEnvC scope cl C X.env) fp) elt te)
    (fold : ∀ x, foldedSetIterable iter X.env x = pure x := by intro _; rfl) :
    PE X (.SetComp elt [⟨tg, iter, ifs, 0⟩] scope pos) (tScK X.prog X.w wi g tt te (own.map (·.2))) := by
  refine ⟨fun pins s σ G Q I wish => ?_⟩
  rw [eval_SetComp]
  have caught : ∀ y ∈ scope.names, y.2 = .free → ∃ c, X.env.cells.lookup y.1 = some c := by
    intro y hy hf
    cases blk.free y hy hf with
    | inl z => exact I.ok.has _ (.inl z)
    | inr z => exact I.ok.has _ (.inr z)
  refine wpAny_comprehension_free rfl fold (closure_ok caught) blk.kind (fun y hy z => by rw [blk.uniq y hy, z]) ?_
  refine thn (src.run pins s σ G _ I wish) fun seqv sA hA => thn hA fun itv sB hB => ?_
  obtain ⟨it, fp, turnAt, J, GB, eit, IB, TT, stB, fpB, hq⟩ := hB
  subst eit
  refine newSet_ok (newEnv_comp ?_)
  have fresh : GB sB.heap.objs.size = none := IB.hok.fresh (Nat.le_refl _)
  have IC := setK_start IB
  revert fresh IC
  generalize eD : sB.heap.objs.size = D
  intro fresh IC
  obtain ⟨W, ⟨m0, w0⟩, steps⟩ := hq D fresh
  revert IC
  generalize eC : ({ sB with heap := sB.heap.push { cls := .type "set", dict := none, data := .set #[] 0 (.fresh 0 0 (!X.w.params.followText "set-order")) } } : Shared) = sC
  generalize eG : upd GB D (SetK X.prog X.w D (fun _ => false) 0) = GC at w0
  intro IC
  have grown : ∀ b o, sB.heap.get? b = some o → sC.heap.get? b = some o := by
    intro b o q
    rw [← eC]
    exact Heap.get?_push_of_some _ q
  have small : ∀ b ∈ fp, b < sB.heap.objs.size := by
    intro b hb
    obtain ⟨o, q, _⟩ := TT.obj _ _ stB b hb
    exact Heap.lt_size q
  have fpC : ∀ b ∈ fp, FpOk X pins GC b ∧ b < sC.heap.objs.size := by
    intro b hb
    have lt := small b hb
    constructor
    · refine ⟨?_, (fpB b hb).2⟩
      rw [← eG, upd_ne (by rw [← eD]; exact Nat.ne_of_lt lt)]
      exact (fpB b hb).1
    · rw [← eC]
      show b < (sB.heap.push _).objs.size
      rw [Heap.size_push]
      exact Nat.lt_succ_of_lt lt
  have stC : turnAt 0 sC.heap := TT.keep _ _ _ stB fun b _ o q => grown b o q
  have ID := block_start IC blk nodup fpC
  have tgD := ptg sC GC sC.heap.objs.size (cellsFrom (sC.heap.objs.size + 1) scope.names (cloFrom X.env.cells scope.names [])) fp
  have ifD := pif sC GC sC.heap.objs.size (cellsFrom (sC.heap.objs.size + 1) scope.names (cloFrom X.env.cells scope.names [])) fp
  have elD := pel sC GC sC.heap.objs.size (cellsFrom (sC.heap.objs.size + 1) scope.names (cloFrom X.env.cells scope.names [])) fp
  have post : ∀ (s' : Shared) (m : Str → Option Value) (G' : Hp), Inv X pins σ G' s' → Q (.ref D) G' → s'.heap.Ns sC.heap.objs.size m → FpOk X pins G' sC.heap.objs.size →
      compPost (model X.prog X.w) X.A X.xe none (EP X pins σ Q) (.ref D) sC.heap.objs.size (.ok .next) s' := by
    intro s' m G' I' q hn hf
    refine ⟨m, hn, fun h'' same => ?_⟩
    obtain ⟨f0, f1, f2, f3, f4, f5⟩ := hf
    exact ⟨.ref D, G', I'.turned (t' := s'.toks) (fun b o hb z => (same.2 b hb).trans z) f0 f1 f3 f4 f5, rfl, q⟩
  show codeAny _ _ (.compStart (.SetComp elt [⟨tg, iter, ifs, 0⟩] scope pos) 0 (.ref it) (.ref D) (compEnvC scope (cellsFrom (sC.heap.objs.size + 1) scope.names (cloFrom X.env.cells scope.names [])) sC.heap.objs.size X.env))
    (compPost (model X.prog X.w) X.A X.xe none (EP X pins σ Q) (.ref D) sC.heap.objs.size) { sC with heap := pushCells (sC.heap.push { cls := .type "dict", data := .dict #[] }) scope.names }
  have none_fp : ∀ b ∈ fp, GC b = none := fun b hb => (fpC b hb).1.1
  revert ID tgD ifD elD
  generalize eE : compEnvC scope (cellsFrom (sC.heap.objs.size + 1) scope.names (cloFrom X.env.cells scope.names [])) sC.heap.objs.size X.env = cenv
  have locals : cenv.locals = sC.heap.objs.size := by
    rw [← eE]
    rfl
  generalize eS : ({ sC with heap := pushCells (sC.heap.push { cls := .type "dict", data := .dict #[] }) scope.names } : Shared) = sD
  intro ID tgD ifD elD
  have stD : turnAt 0 sD.heap := by
    refine TT.keep _ _ _ stC fun b _ o q => ?_
    rw [← eS]
    exact pushCells_keeps _ _ _ _ (Heap.get?_push_of_some _ q)
  have steady : ∀ {σ' : L2.St} {G' : Hp} {s' : Shared}, Inv (X.blk sC GC scope cenv fp) [] σ' G' s' → (∀ b ∈ fp, G' b = none) → ∀ b ∈ fp, FpOk (X.blk sC GC scope cenv fp) [] G' b := by
    intro σ' G' s' I' hn b hb
    refine ⟨hn b hb, (I'.ok.exf b hb).1, I'.ok.exfs b hb, .inl hb, fun x c => (I'.ok.exf b hb).2 x c, fun p hp => ?_⟩
    exact absurd (show p ∈ ([] : List (Addr × Obj)) ++ [] from hp) (by simp)
  have loop : codeAny (model X.prog X.w) X.A (.compLoop (.SetComp elt [⟨tg, iter, ifs, 0⟩] scope pos) 0 (.ref it) (.ref D) cenv)
      (compPost (model X.prog X.w) X.A X.xe none (EP X pins σ Q) (.ref D) sC.heap.objs.size) sD := by
    refine compLoopS_any (fun n s' => ∃ i G', Inv (X.blk sC GC scope cenv fp) [] (wipe σ (own.map (·.2))) G' s' ∧ turnAt i s'.heap ∧ (∀ b ∈ fp, G' b = none) ∧ W i n G') ?_ m0 ⟨0, GC, ID, stD, none_fp, w0⟩
    rintro n s5 ⟨i, G5, I5, st5, n5, w5⟩
    cases steps i n G5 w5 with
    | inl done =>
      obtain ⟨stop, hq⟩ := done
      refine thnF (TT.done (X.blk sC GC scope cenv fp) rfl rfl rfl calm i [] s5 _ G5 (fun _ _ => False) I5 (steady I5 n5) st5 stop) fun r s6 ⟨hr, I6⟩ => ?_
      subst hr
      have I7 : Inv X pins σ G5 s6 := IC.call' (ch := fp) I6.os I6.base I6.hok I6.bare fun b hb =>
        ⟨(fpC b hb).1.2.2.2.1, (fpC b hb).1.2.1, (fpC b hb).1.2.2.2.2.1, (fpC b hb).1.2.2.2.2.2⟩
      have gone : G5 sC.heap.objs.size = none := by
        rw [← locals]
        exact I6.free
      obtain ⟨m, hn, _⟩ := I6.loc
      refine post s6 m G5 I7 hq ?_ (IC.fpOk (Nat.le_refl _) gone)
      rw [← locals]
      exact hn
    | inr more =>
      obtain ⟨go, Nx, hNx, step⟩ := more
      refine thnF (TT.item (X.blk sC GC scope cenv fp) rfl rfl rfl calm i [] s5 _ G5 (fun _ _ => False) I5 (steady I5 n5) st5 go) fun r s6 ⟨u, hr, h6⟩ => ?_
      subst hr
      refine thnF h6 fun _ s7 ⟨x, G7, I7, r7, y7, st7, n7⟩ => ?_
      refine thnF (tgD.run _ s7 _ G7 x u _ (I7.pinned (steady I7 n7) (TT.obj _ _ st7)) r7 (step x G7 y7)) fun _ s8 ⟨σ8, G8, I8, hw, q8⟩ => ?_
      refine thnF (ifD.run _ s8 σ8 G8 _ I8 q8) fun b s9 ⟨G9, I9, q9⟩ => ?_
      have back : ∀ {s' : Shared} {G' : Hp}, Inv (X.blk sC GC scope cenv fp) ([] ++ pinsAt fp s7.heap) σ8 G' s' → Nx G' →
          ∃ m, m < n ∧ ∃ i G', Inv (X.blk sC GC scope cenv fp) [] (wipe σ (own.map (·.2))) G' s' ∧ turnAt i s'.heap ∧ (∀ b ∈ fp, G' b = none) ∧ W i m G' := by
        intro s' G' I' nx
        obtain ⟨m', hm, w'⟩ := hNx G' nx
        have pinned : ∀ b ∈ fp, ∀ o, s7.heap.get? b = some o → s'.heap.get? b = some o ∧ G' b = none := by
          intro b hb o q
          have z := I'.pin (b, o) (List.mem_append_right _ (List.mem_append_right _ (mem_pinsAt hb q)))
          exact ⟨z.1, z.2.1⟩
        have len : (wipe σ (own.map (·.2))).length = σ8.length := by rw [← hw, wipe_length]
        refine ⟨m', hm, i + 1, G', (I'.unpinned (pins := [])).weak len ?_, TT.keep _ _ _ st7 fun b hb o q => (pinned b hb o q).1, fun b hb => ?_, w'⟩
        · intro j v q
          rw [← hw] at q
          exact (wipe_some q).1
        · obtain ⟨o, q, _⟩ := TT.obj _ _ st7 b hb
          exact (pinned b hb o q).2
      cases b with
      | false => exact back I9 q9
      | true =>
        show wpAny _ _ _ _ _ _
        refine thnF (elD.run _ s9 σ8 G9 _ I9 q9) fun z s10 ⟨yv, G10, I10, r10, k, S0, n0, ey, hD10, room, nx⟩ => ?_
        subst ey
        exact addK_ok (Y := X.blk sC GC scope cenv fp) I10 hD10 r10 room fun v s11 I11 => back I11 nx
  exact codeAny_compStart_set loop (TT.self X.A 0 _ _ _ stD loop)
end
end TH
set_option maxRecDepth 100000
set_option maxHeartbeats 4000000
namespace TH
open PySem L2 Evl
def top (i : Nat) : Stmt := PySem.Challenge.pw_treehands_k15_guessers_read.main.body.getD i (.Pass ⟨0, 0, 0, 0⟩)
abbrev sBox : Stmt := top 29
abbrev sMore : Stmt := top 30
abbrev sTake : Stmt := top 31

structure Glob (mg : Str → Option Value) : Prop where
  range : mg "range" = none
  len : mg "len" = none
  abs : mg "abs" = none
  divmod : mg "divmod" = none

/-- _law_box: a new box -/
def spBox (K : PySem.W.Frag) : Sp := fun vs H Q _ => ∃ (a : Addr) (ns : List Int) (k : Int), vs = [.ref a, .int k] ∧ SqL K H a (ns.map V.int) ∧ 0 ≤ k ∧ k ≤ 100 ∧
  ∀ b H', H b = none → Ex H H' → H' b = some (Box b) → Q (.ref b) H'
/-- _law_more: a number that is not negative -/
def spMore : Sp := fun vs H Q _ => ∃ b : Addr, vs = [.ref b] ∧ H b = some (Box b) ∧ ∀ n : Int, 0 ≤ n → n.natAbs < 2 ^ 200 → Q (.int n) H
/-- _law_take: a digit below the count -/
def spTake : Sp := fun vs H Q _ => ∃ (b : Addr) (n : Int), vs = [.ref b, .int n] ∧ H b = some (Box b) ∧ 0 < n ∧ n.natAbs < 2 ^ 200 ∧
  ∀ d H', 0 ≤ d → d < n → Ex H H' → Q (.int d) H'

section
variable {P : Program} {w : World} {K : PySem.W.Frag} {mg : Str → Option Value} {base : Heap}
theorem scBox : FnScope ["_law_script", "_law_k", "_law_here", "_law_number", "_law_j", "_law_piece"] ["_law_script", "_law_k"] (defScope sBox) :=
  ⟨rfl, rfl, rfl, by decide +kernel, rfl, by decide +kernel, by decide +kernel⟩
theorem ok_box {f : Addr} {fd : FuncData} (F : Fun K "_law_box" "_law_box" sBox f fd) (G : Glob mg) :
    FnOk P w K mg base CX0 1 f fd ["_law_script", "_law_k"] (spBox K) := by
  refine F.ok scBox (fun vs H Q E h => ?_) (fun cdv A outer s H vs Q E hr h => ?_)
  · obtain ⟨a, ns, k, rfl, _⟩ := h
    rfl
  · obtain ⟨a, ns, k, rfl, hS, hk0, hk1, q⟩ := h
    refine ⟨_, pss_cons (ps_set (i := 2) scBox.nd rfl (.inl rfl) (pe_op op_add (pe_op op_mul pe_int (pv 1)) pe_int))
      (pss_cut (ps_if (pt_cmpR op_lt (pv 1) (pe_callB call_len_seq (by rfl) G.len PySem.boot_len (pa_cons (pv 0) pa_nil)) (nomark _))
        (pss_one (ps_set (i := 2) scBox.nd rfl (.inl rfl) (pe_ix ix_list (pv 0) (pv 1) (fun _ _ => rfl)))) pss_nil)
      (pss_cons (ps_if (pt_cmpR op_eq (pe_op op_mod (pv 2) pe_int) pe_int (nomark _))
        (pss_one (ps_ret (pe_shut (pe_lst (pa_cons (pe_op op_fdiv (pv 2) pe_int) (pa_cons (pe_op op_mod (pe_callB call_abs (by rfl) G.abs (by decide +kernel) (pa_cons (pv 2) pa_nil)) pe_int) pa_nil)))))) pss_nil)
      (pss_cons (ps_set (i := 3) scBox.nd rfl (.inl rfl) pe_int)
      (pss_cons (ps_for PassesOwn.never rfl (pi_range1 rfl G.range (pa_cons pe_int pa_nil)) (pg_name (i := 4) scBox.nd rfl (.inl rfl))
        (pss_cons (ps_set (i := 5) scBox.nd rfl (.inl rfl) (pe_op op_mod (pe_op op_add (pe_op op_add (pe_op op_mul (pe_op op_mod (pv 2) pe_int) pe_int) (pe_op op_mul pe_int (pv 4))) pe_int) pe_int))
        (pss_cons (ps_set (i := 5) scBox.nd rfl (.inl rfl) (pe_op op_mod (pe_op op_mul (pv 5) (pv 5)) pe_int))
        (pss_one (ps_set (i := 3) scBox.nd rfl (.inl rfl) (pe_op op_add (pe_op op_mul (pv 3) pe_int) (pe_op op_mod (pe_op op_mul (pv 5) (pe_op op_add (pv 5) pe_int)) pe_int)))))))
      (pss_one (ps_ret (pe_shut (pe_lst (pa_cons (pv 3) (pa_cons (pe_op op_mod (pe_callB call_abs (by rfl) G.abs (by decide +kernel) (pa_cons (pv 2) pa_nil)) pe_int) pa_nil)))))))))), ?_⟩
    -- 7919 * k + 13
    refine ⟨_, rfl, _, _, rfl, rfl, .inl (by decide), _, _, rfl, rfl, ?_⟩
    -- if k < len(script)
    refine ⟨fun σ' H' => H' = H ∧ ∃ z : Int, σ' = [some (.ref a), some (.int k), some (.int z), none, none, none], ?_, ?_⟩
    · refine ⟨_, rfl, _, rfl, _, _, rfl, .inl hS, _, _, rfl, rfl, _, rfl, ite2 (fun c => ?_) (fun _ => ?_)⟩
      · have c' : k < ((ns.map V.int).length : Int) := of_decide_eq_true c
        rw [List.length_map] at c'
        obtain ⟨j, rfl⟩ := Int.eq_ofNat_of_zero_le hk0
        have hj : j < ns.length := by omega
        refine ⟨_, rfl, _, rfl, _, _, _, .int ns[j], rfl, rfl, hS, atI_nat (by simp [hj]), rfl, ns[j], rfl⟩
      · exact ⟨rfl, _, rfl⟩
    · rintro σ' H' ⟨rfl, z, rfl⟩
      -- if here % 2 == 0
      refine ⟨_, rfl, _, _, rfl, rfl, (by show (0 : Int) < 2; decide), rfl, _, rfl, ite2 (fun _ => ?_) (fun _ => ?_)⟩
      · refine ⟨_, rfl, _, _, rfl, rfl, ⟨by decide, by decide⟩, _, rfl, _, rfl, _, _, rfl, rfl, (by show (0 : Int) < 2147483647; decide), (by show 2 ≤ sizeLine; decide), fun p hp => ⟨p, _, _, rfl, upd_same, ?_⟩⟩
        rw [upd_upd]
        exact q p _ hp (Ex.new hp) upd_same
      · refine ⟨16, rfl, by decide, by decide, for_range (n := 16) (fun i σ' H'' => H'' = H' ∧ ∃ (n : Int) (u v : Option V), σ' = [some (.ref a), some (.int k), some (.int z), some (.int n), u, v]) ⟨rfl, 0, none, none, rfl⟩ ?_ ?_⟩
        · rintro i σ' H'' hi ⟨rfl, n, u, v, rfl⟩
          have hm : ∀ x : Int, 0 ≤ x % 2147483647 ∧ x % 2147483647 < 2147483647 := fun x => ⟨Int.emod_nonneg _ (by decide), Int.emod_lt_of_pos _ (by decide)⟩
          have hm2 : ∀ x : Int, 0 ≤ x % 2147483629 ∧ x % 2147483629 < 2147483629 := fun x => ⟨Int.emod_nonneg _ (by decide), Int.emod_lt_of_pos _ (by decide)⟩
          refine ⟨_, rfl, _, _, rfl, rfl, (by show (0 : Int) < 2147483647; decide), _, _, rfl, rfl, .inr (by decide), _, rfl, _, _, rfl, rfl, .inl (by decide), _, _, rfl, rfl, _, _, rfl, rfl, _, _, rfl, rfl, (by show (0 : Int) < 2147483647; decide), ?_⟩
          refine ⟨_, rfl, _, rfl, _, _, rfl, rfl, .inl ?_, _, _, rfl, rfl, (by show (0 : Int) < 2147483629; decide), ?_⟩
          · have := hm (z % 2147483647 * 48271 + 7919 * (0 + (i : Int)) + 1)
            omega
          refine ⟨_, rfl, _, _, rfl, rfl, .inr (by decide), _, rfl, _, rfl, _, _, rfl, rfl, _, _, rfl, rfl, .inl ?_, _, _, rfl, rfl, (by show (0 : Int) < 2147483647; decide), _, _, rfl, rfl, rfl, _, _, _, rfl⟩
          · have := hm2 ((z % 2147483647 * 48271 + 7919 * (0 + (i : Int)) + 1) % 2147483647 * ((z % 2147483647 * 48271 + 7919 * (0 + (i : Int)) + 1) % 2147483647))
            omega
        · rintro σ' H'' ⟨rfl, n, u, v, rfl⟩
          refine ⟨_, rfl, _, rfl, _, rfl, _, _, rfl, rfl, (by show (0 : Int) < 2147483647; decide), (by show 2 ≤ sizeLine; decide), fun p hp => ⟨p, _, _, rfl, upd_same, ?_⟩⟩
          rw [upd_upd]
          exact q p _ hp (Ex.new hp) upd_same
theorem pow_step {i : Nat} {n r : Int} (h0 : 0 ≤ n) (h : n < 65521 ^ i) (r0 : 0 ≤ r) (r1 : r < 65521) : 0 ≤ n * 65521 + r ∧ n * 65521 + r < 65521 ^ (i + 1) := by
  rw [Int.pow_succ]
  have h2 : n + 1 ≤ 65521 ^ i := h
  have h3 : (n + 1) * 65521 ≤ 65521 ^ i * 65521 := Int.mul_le_mul_of_nonneg_right h2 (by decide)
  rw [Int.add_mul] at h3
  refine ⟨?_, ?_⟩
  · have := Int.mul_nonneg h0 (show (0 : Int) ≤ 65521 by decide)
    omega
  · omega
theorem scMore : FnScope ["_law_box_here", "_law_number", "_law_j"] ["_law_box_here"] (defScope sMore) :=
  ⟨rfl, rfl, rfl, by decide +kernel, rfl, by decide +kernel, by decide +kernel⟩
theorem ok_more {f : Addr} {fd : FuncData} (F : Fun K "_law_more" "_law_more" sMore f fd) (G : Glob mg) :
    FnOk P w K mg base CX0 1 f fd ["_law_box_here"] spMore := by
  refine F.ok scMore (fun vs H Q E h => ?_) (fun cdv A outer s H vs Q E hr h => ?_)
  · obtain ⟨b, rfl, _⟩ := h
    rfl
  · obtain ⟨b, rfl, hb, q⟩ := h
    refine ⟨_, pss_cons (ps_set (i := 1) scMore.nd rfl (.inl rfl) pe_int)
      (pss_cons (ps_for PassesOwn.never rfl (pi_range1 rfl G.range (pa_cons pe_int pa_nil)) (pg_name (i := 2) scMore.nd rfl (.inl rfl))
        (pss_cons (ps_asg (pe_op op_mod (pe_op op_add (pe_op op_mul (pe_ix ix_box (pv 0) pe_int (fun _ _ => rfl)) pe_int) pe_int) pe_int) (pg_sub (pv 0) pe_int set_box))
        (pss_one (ps_set (i := 1) scMore.nd rfl (.inl rfl) (pe_op op_add (pe_op op_mul (pv 1) pe_int) (pe_op op_mod (pe_op op_fdiv (pe_ix ix_box (pv 0) pe_int (fun _ _ => rfl)) pe_int) pe_int))))))
      (pss_one (ps_ret (pv 1)))), ?_⟩
    refine ⟨12, rfl, by decide, by decide, for_range (n := 12) (fun i σ' H' => H' = H ∧ ∃ (n : Int) (u : Option V), σ' = [some (.ref b), some (.int n), u] ∧ 0 ≤ n ∧ n < 65521 ^ i) ⟨rfl, 0, none, rfl, by decide, by decide⟩ ?_ ?_⟩
    · rintro i σ' H' hi ⟨rfl, n, u, rfl, h0, h1⟩
      refine ⟨_, rfl, b, 1, rfl, rfl, .inr rfl, hb, fun z => ⟨_, _, rfl, rfl, .inr (by decide), _, _, rfl, rfl, _, _, rfl, rfl, (by show (0 : Int) < 2147483647; decide), ?_⟩⟩
      refine ⟨_, rfl, b, 1, _, rfl, rfl, rfl, .inr rfl, hb, ?_⟩
      refine ⟨_, rfl, _, _, rfl, rfl, .inr (by decide), _, rfl, b, 1, rfl, rfl, .inr rfl, hb, fun y => ⟨_, _, rfl, rfl, ⟨by decide, by decide⟩, _, _, rfl, rfl, (by show (0 : Int) < 65521; decide), _, _, rfl, rfl, rfl, _, _, rfl, ?_⟩⟩
      exact pow_step h0 h1 (Int.emod_nonneg _ (by decide)) (Int.emod_lt_of_pos _ (by decide))
    · rintro σ' H' ⟨rfl, n, u, rfl, h0, h1⟩
      refine ⟨_, rfl, q n h0 ?_⟩
      have e : (65521 : Int) ^ 12 < 2 ^ 200 := by decide
      have e2 : ((n.natAbs : Nat) : Int) < ((2 ^ 200 : Nat) : Int) := by
        rw [Int.natAbs_of_nonneg h0]
        exact Int.lt_trans h1 (by decide)
      exact Int.ofNat_lt.mp e2
theorem scTake : FnScope ["_law_box_here", "_law_count", "_law_rest_of", "_law_digit"] ["_law_box_here", "_law_count"] (defScope sTake) :=
  ⟨rfl, rfl, rfl, by decide +kernel, rfl, by decide +kernel, by decide +kernel⟩
theorem ok_take {f fM : Addr} {fd fdM : FuncData} (F : Fun K "_law_take" "_law_take" sTake f fd) (G : Glob mg) (FM : Fun K "_law_more" "_law_more" sMore fM fdM) (mM : mg "_law_more" = some (.ref fM)) (bM : Binds K fdM ["_law_box_here"] []) :
    FnOk P w K mg base CX0 2 f fd ["_law_box_here", "_law_count"] spTake := by
  have GM : FnOk P w K mg base CX0 1 fM fdM ["_law_box_here"] spMore := ok_more FM G
  refine F.ok scTake (fun vs H Q E h => ?_) (fun cdv A outer s H vs Q E hr h => ?_)
  · obtain ⟨b, n, rfl, _⟩ := h
    rfl
  · obtain ⟨b, n, rfl, hb, n0, nb, q⟩ := h
    refine ⟨_, pss_cut (ps_if (pt_chain op_le op_lt pe_int (pe_ix ix_box (pv 0) pe_int (fun _ _ => rfl)) (pv 1))
        (pss_one (ps_asg (pe_op op_add (pe_ix ix_box (pv 0) pe_int (fun _ _ => rfl)) (pe_op op_mulW (pv 1) (pe_call GM hr rfl mM FM.kp bM .nil pass0 (pa_cons (pv 0) pa_nil)))) (pg_sub (pv 0) pe_int set_box))) pss_nil)
      (pss_cons (ps_asg (pe_callB call_divmodW (by rfl) G.divmod (by decide +kernel) (pa_cons (pe_ix ix_box (pv 0) pe_int (fun _ _ => rfl)) (pa_cons (pv 1) pa_nil)))
        (pg_tup (by rfl) (pgs_cons (pg_name (i := 2) scTake.nd rfl (.inl rfl)) (pgs_cons (pg_name (i := 3) scTake.nd rfl (.inl rfl)) pgs_nil))))
      (pss_cons (ps_asg (pv 2) (pg_sub (pv 0) pe_int set_box))
      (pss_one (ps_ret (pv 3))))), ?_⟩
    refine ⟨fun σ' H' => H' = H ∧ σ' = [some (.ref b), some (.int n), none, none], ?_, ?_⟩
    · refine ⟨_, rfl, b, 0, rfl, rfl, .inl rfl, hb, fun z => ⟨_, _, rfl, rfl, _, rfl, ite2 (fun c => ?_) (fun _ => ?_)⟩⟩
      · refine ⟨_, rfl, _, _, rfl, rfl, _, rfl, ite2 (fun _ => ?_) (fun _ => ?_)⟩
        · refine ⟨_, rfl, b, 0, rfl, rfl, .inl rfl, hb, fun y => ⟨_, rfl, _, rfl, b, rfl, hb, fun m m0 mb => ⟨_, _, rfl, rfl, wide_mul nb mb (by decide) (by decide) (by decide), _, _, rfl, rfl, ?_⟩⟩⟩
          exact ⟨_, rfl, b, 0, _, rfl, rfl, rfl, .inl rfl, hb, rfl, rfl⟩
        · exact ⟨rfl, rfl⟩
      · exact ⟨_, rfl, iteF ⟨rfl, rfl⟩⟩
    · rintro σ' H' ⟨rfl, rfl⟩
      refine ⟨_, rfl, b, 0, rfl, rfl, .inl rfl, hb, fun z => ⟨_, rfl, _, _, rfl, divP n0 nb (by decide) (by decide), fun p hp => ?_⟩⟩
      have e : Ex H' (upd H' p (.tup [.int (z / n), .int (z % n)])) := Ex.new hp
      refine ⟨p, _, rfl, SqT.of upd_same, rfl, _, _, rfl, _, _, rfl, rfl, ?_⟩
      refine ⟨_, rfl, _, rfl, b, 0, _, rfl, rfl, rfl, .inl rfl, e _ _ hb, ?_⟩
      exact ⟨_, rfl, q _ _ (Int.emod_nonneg _ (by omega)) (Int.emod_lt_of_pos _ n0) e⟩
end
end TH
set_option maxRecDepth 100000
set_option maxHeartbeats 4000000
namespace TH
open PySem L2 Evl
abbrev sName : Stmt := top 24
abbrev sSign : Stmt := top 25
structure GlobS (mg : Str → Option Value) : Prop extends Glob mg where
  all : mg "all" = none
  any : mg "any" = none
  longest : ∃ t, mg "LONGEST_NAME" = some (.int 3 t)
  most : ∃ t, mg "MOST_SIGNS_signs" = some (.int 6 t)
  mostK : ∃ t, mg "MOST_KIDS" = some (.int 2 t)
  enumerate : mg "enumerate" = none
section
variable {K : PySem.W.Frag} {M : Addr → Prop} {H H1 H' : Hp} {σ : L2.St} {ta tb tc te tl : TE}
/-- a chain of two <= of texts -/
theorem evd_chainS {i j k : Str} (ha : EvD K M ta σ H (.str i)) (hb : EvD K M tb σ H (.str j)) (hc : EvD K M tc σ H (.str k)) :
    EvD K M (tChain (fun x y H Q => ∃ i j, x = .str i ∧ y = .str j ∧ Q (.bl (!decide (j.cps.toList < i.cps.toList))) H) (fun x y H Q => ∃ i j, x = .str i ∧ y = .str j ∧ Q (.bl (!decide (j.cps.toList < i.cps.toList))) H) ta tb tc) σ H
      (.bool ((!decide (j.cps.toList < i.cps.toList)) && (!decide (k.cps.toList < j.cps.toList)))) := fun H1 e Q q =>
  ha H1 e _ fun x a H2 e2 dx px => hb H2 (e.trans e2) _ fun y b H3 e3 dy py => by
    subst px py
    cases dx
    cases dy
    refine ⟨i, j, rfl, rfl, _, rfl, ?_⟩
    cases hg : (!decide (j.cps.toList < i.cps.toList)) with
    | false => exact iteF (q _ _ H3 (e2.trans e3) (.bl _) (by rw [hg]; rfl))
    | true => exact iteT (hc H3 ((e.trans e2).trans e3) _ fun z c H4 e4 dz pz => by
        subst pz
        cases dz
        exact ⟨j, k, rfl, rfl, q _ _ H4 ((e2.trans e3).trans e4) (.bl _) (by rw [hg]; rfl)⟩)
/-- all, any -/
theorem evd_all {ta : TA} {bs : List Bool} (h : EvDA K M ta σ H [.list (bs.map PyData.bool)]) : EvD K M (tCB (rAll K) ta) σ H (.bool (bs.all id)) :=
  evp_cb h fun vs ds H1 e dv pd Q q => by
    subst pd
    cases dv with
    | cons h1 h2 =>
      cases h2
      cases h1 with
      | lst k1 k2 k3 => exact ⟨_, bs, rfl, by rw [← k3.bls]; exact sq_of k1, q _ _ H1 (Ex.refl _) (.bl _) rfl⟩
theorem evd_any {ta : TA} {bs : List Bool} (h : EvDA K M ta σ H [.list (bs.map PyData.bool)]) : EvD K M (tCB (rAny K) ta) σ H (.bool (bs.any id)) :=
  evp_cb h fun vs ds H1 e dv pd Q q => by
    subst pd
    cases dv with
    | cons h1 h2 =>
      cases h2
      cases h1 with
      | lst k1 k2 k3 => exact ⟨_, bs, rfl, by rw [← k3.bls]; exact sq_of k1, q _ _ H1 (Ex.refl _) (.bl _) rfl⟩
/-- len of a text, of a list, of a tuple -/
theorem evd_lenS {ta : TA} {z : Str} (h : EvDA K M ta σ H [.str z]) (hz : z.length ≤ sizeLine) : EvD K M (tCB (fun xs H Q => ∃ z, xs = [.str z] ∧ z.length ≤ sizeLine ∧ Q (.int z.length) H) ta) σ H (.int z.length) :=
  evp_cb h fun vs ds H1 e dv pd Q q => by
    subst pd
    cases dv with
    | cons h1 h2 =>
      cases h2
      cases h1
      exact ⟨z, rfl, hz, q _ _ H1 (Ex.refl _) (.int _) rfl⟩
theorem evd_lenL {ta : TA} {es : List PyData} (h : EvDA K M ta σ H [.list es]) : EvD K M (tCB (fun xs H Q => ∃ p ys, xs = [.ref p] ∧ (SqL K H p ys ∨ SqT K H p ys) ∧ Q (.int ys.length) H) ta) σ H (.int es.length) :=
  evp_cb h fun vs ds H1 e dv pd Q q => by
    subst pd
    cases dv with
    | cons h1 h2 =>
      cases h2
      cases h1 with
      | lst k1 k2 k3 => exact ⟨_, _, rfl, .inl (sq_of k1), q _ _ H1 (Ex.refl _) (.int _) (by rw [k3.length])⟩
theorem evd_lenT {ta : TA} {es : List PyData} (h : EvDA K M ta σ H [.tuple es]) : EvD K M (tCB (fun xs H Q => ∃ p ys, xs = [.ref p] ∧ (SqL K H p ys ∨ SqT K H p ys) ∧ Q (.int ys.length) H) ta) σ H (.int es.length) :=
  evp_cb h fun vs ds H1 e dv pd Q q => by
    subst pd
    cases dv with
    | cons h1 h2 =>
      cases h2
      cases h1 with
      | tup k1 k3 => exact ⟨_, _, rfl, .inr (SqT.of k1), q _ _ H1 (Ex.refl _) (.int _) (by rw [k3.length])⟩
theorem evt_not {t : TT} {b : Bool} (h : EvT t σ H b) : EvT (tNot t) σ H (!b) := et_not h
end
theorem filter_yes {α : Type} (l : List α) : l.filter (fun _ => true) = l := by simp
/-! ### is_name, is_sign -/
def okc (c : Nat) : Bool := (!decide ([c] < ("a" : Str).cps.toList)) && (!decide (("z" : Str).cps.toList < [c]))
def isNameB (z : Str) : Bool := (decide (1 ≤ (z.length : Int)) && decide ((z.length : Int) ≤ 3)) && z.cps.toList.all okc
def nameA : List PyData → Prop := fun ds => ∃ z : Str, ds = [.str z, .int 3] ∧ z.length ≤ 100000
def nameF : List PyData → PyData
  | [.str z, .int _] => .bool (isNameB z)
  | _ => .none
section
variable {P : Program} {w : World} {K : PySem.W.Frag} {mg : Str → Option Value} {base : Heap}
theorem scName : FnScope ["name", "longest", "letter"] ["name", "longest"] (defScope sName) := ⟨rfl, rfl, rfl, by decide +kernel, rfl, by decide +kernel, by decide +kernel⟩
theorem ok_name {f : Addr} {fd : FuncData} (F : Fun K "is_name" "is_name" sName f fd) (G : GlobS mg) : FnOk P w K mg base CX0 1 f fd ["name", "longest"] (spD K nameA fun ds d => d = nameF ds) := by
  refine F.ok scName (fun vs H Q E h => ?_) (fun cdv A outer s H vs Q E hr h => ?_)
  · obtain ⟨M, ds, _, dv, ⟨z, rfl, _⟩, _⟩ := h
    exact dv.length
  · obtain ⟨M, ds, ok, dv, ⟨z, rfl, hz⟩, q⟩ := h
    cases dv with
    | cons h1 h2 =>
    cases h2 with
    | cons h3 h4 =>
    cases h1
    cases h3
    cases h4
    refine ⟨_, pss_cons (ps_if (pt_not (pt_chain op_le op_le pe_int (pe_callB call_len_str (by rfl) G.len PySem.boot_len (pa_cons (pv 0) pa_nil)) (pv 1))) (pss_one (ps_ret pe_bl)) pss_nil)
      (pss_one (ps_ret (pe_callB (cr_all rfl) (by rfl) G.all (by decide +kernel) (pa_cons (pe_lc (own := [("letter", 2)]) (g := gName 2) (tt := tYes) rfl scName.nd (pi_str (pv 0))
          (blkOk_by (N := ["name", "longest", "letter"]) (sc := defScope sName) (by decide +kernel)) (fun _ _ _ _ _ => pg_name (i := 2) scName.nd rfl (.inl rfl)) (fun _ _ _ _ _ => pts_nil)
          (fun _ _ _ _ _ => pe_chain op_le_str op_le_str pe_str (pv 2) pe_str)) pa_nil)))), ?_⟩
    have hs : z.length ≤ sizeLine := sz_of hz
    -- if not 1 <= len(name) <= 3
    refine q_when (evt_not (evt_test (K := K) (M := M) (evd_chainI (g := fun i j => decide (i ≤ j)) (g' := fun i j => decide (i ≤ j)) evd_int (evd_lenS (eva_cons (evd_var rfl (.str z)) eva_nil) hs) (evd_var rfl (.int 3))))) (fun hb H1 e1 => ?_) (fun hb H1 e1 => ?_)
    · refine q _ _ H1 e1 (.bl _) ?_
      show PyData.bool false = .bool (isNameB z)
      unfold isNameB
      rw [Bool.not_eq_true'] at hb
      rw [hb]
      rfl
    · rw [Bool.not_eq_false'] at hb
      have ok1 := ok.ex e1
      refine s_retP (K := K) (M := M) (evd_all (bs := z.cps.toList.map okc) (eva_cons ?_ eva_nil)) fun v d H2 e2 dv pd => q v d H2 (e1.trans e2) dv ?_
      · refine (evd_lcS (fun _ => true) (fun c => .bool (okc c)) ok1 (evd_var rfl (.str z)) (Nat.lt_of_le_of_lt hz (by decide)) fun M' c H' hm ok' hc e Qg qg => ?_).mono fun d h => ?_
        · exact qg _ H' (Ex.refl _) ⟨rfl, evt_yes, fun _ => (evd_chainS (i := "a") (j := ⟨#[c]⟩) (k := "z") evd_str (evd_var rfl (.str _)) evd_str).mono fun d h => h⟩
        · rw [h, filter_yes, List.map_map]
          rfl
      · rw [pd]
        show _ = PyData.bool (isNameB z)
        unfold isNameB
        rw [hb, List.all_map]
        rfl
end
end TH
set_option maxRecDepth 100000
set_option maxHeartbeats 4000000
namespace TH
open PySem L2 Evl
/-! ### how many unlike members -/
def sadd (p : (Key → Bool) × Nat) (k : Key) : (Key → Bool) × Nat := (fun j => p.1 j || decide (j = k), if p.1 k = true then p.2 else p.2 + 1)
def sall (ks : List Key) : (Key → Bool) × Nat := ks.foldl sadd (fun _ => false, 0)
theorem sadd_le : ∀ (ks : List Key) (p : (Key → Bool) × Nat), (ks.foldl sadd p).2 ≤ p.2 + ks.length
  | [], p => Nat.le_refl _
  | k :: ks, p => by
    have h := sadd_le ks (sadd p k)
    have h2 : (sadd p k).2 ≤ p.2 + 1 := by
      unfold sadd
      dsimp only
      split <;> omega
    rw [List.foldl_cons, List.length_cons]
    omega
theorem sadd_new : ∀ (ks : List Key) (p : (Key → Bool) × Nat), ks.Nodup → (∀ k ∈ ks, p.1 k = false) → (ks.foldl sadd p).2 = p.2 + ks.length
  | [], p, _, _ => rfl
  | k :: ks, p, nd, hp => by
    obtain ⟨h1, h2⟩ := List.nodup_cons.mp nd
    have e : (sadd p k).2 = p.2 + 1 := by
      unfold sadd
      dsimp only
      rw [hp k List.mem_cons_self, if_neg Bool.false_ne_true]
    rw [List.foldl_cons, sadd_new ks (sadd p k) h2, e, List.length_cons]
    · omega
    · intro j hj
      show (p.1 j || decide (j = k)) = false
      rw [hp j (List.mem_cons_of_mem _ hj), decide_eq_false (show ¬ j = k from fun e => h1 (by rw [← e]; exact hj))]
      rfl
theorem sadd_old : ∀ (ks : List Key) (p : (Key → Bool) × Nat), (¬ ks.Nodup ∨ ∃ k ∈ ks, p.1 k = true) → (ks.foldl sadd p).2 < p.2 + ks.length
  | [], p, h => by
    rcases h with h | ⟨k, hk, _⟩
    · exact absurd List.nodup_nil h
    · cases hk
  | k :: ks, p, h => by
    rw [List.foldl_cons, List.length_cons]
    by_cases hk : p.1 k = true
    · have e : (sadd p k).2 = p.2 := by
        unfold sadd
        dsimp only
        rw [if_pos hk]
      have := sadd_le ks (sadd p k)
      omega
    · have e : (sadd p k).2 = p.2 + 1 := by
        unfold sadd
        dsimp only
        rw [if_neg hk]
      have := sadd_old ks (sadd p k) ?_
      · omega
      · by_cases hm : k ∈ ks
        · exact .inr ⟨k, hm, by show (p.1 k || decide (k = k)) = true; simp⟩
        · rcases h with h | ⟨j, hj, e2⟩
          · exact .inl fun nd => h (List.nodup_cons.mpr ⟨hm, nd⟩)
          · rcases List.mem_cons.mp hj with rfl | hj
            · exact absurd e2 hk
            · exact .inr ⟨j, hj, by show (p.1 j || decide (j = k)) = true; rw [e2]; rfl⟩
theorem sall_lt (ks : List Key) : ((sall ks).2 < ks.length) = ¬ ks.Nodup := by
  apply propext
  constructor
  · intro h nd
    have := sadd_new ks (fun _ => false, 0) nd fun _ _ => rfl
    unfold sall at h
    omega
  · intro h
    have := sadd_old ks (fun _ => false, 0) (.inl h)
    unfold sall
    omega
section
variable {X : Cx}
def rLenK (P : Program) (w : World) : List V → Hp → VK → Prop := fun xs H Q => ∃ (a : Addr) (S : Key → Bool) (n : Nat), xs = [.ref a] ∧ H a = some (SetK P w a S n) ∧ Q (.int n) H
theorem call_lenK : CallR X (.builtin "len") (rLenK X.prog X.w) := by
  intro pins s σ H xs us Q I r h
  obtain ⟨a, S, n, rfl, ha, q⟩ := h
  cases r with
  | cons r1 r2 =>
    cases r2
    cases r1
    obtain ⟨o, es, ep, t, ho, hx, hd, _, _, hb, hf, hn⟩ := setK_get I ha
    refine call_len_set ho hx hd hf ?_ ?_
    · have : es.size < 2 ^ 32 := Nat.lt_of_lt_of_le hb (by decide)
      omega
    · rw [hn]
      exact ⟨.int n, H, I.kept (t' := s.toks + 1 + 1) fun _ _ z => z, ⟨_, rfl⟩, q⟩
end
section
variable {K : PySem.W.Frag} {M : Addr → Prop} {H H1 H' : Hp} {σ : L2.St} {ta tb tc te tl : TE} {P : Program} {w : World} {g : TG} {vs : List Nat}
/-- len({elt for x in list}) -/
theorem evd_lenSc {ds : List PyData} (F : PyData → Key) (ok : Ok M H) (hl : EvD K M tl σ H (.list ds)) (hz : ds.length < 1000)
    (hs : ∀ (M' : Addr → Prop) (d : PyData) (x : V) (H' : Hp), (∀ v d, Dt K M H v d → Dt K M' H' v d) → Ok M' H' → d ∈ ds → Ex H H' → Dt K M' H' x d →
      ∀ Qg : L2.St → Hp → Prop, (∀ σ2 H2, Ex H' H2 → wipe σ2 vs = wipe σ vs → Ev te σ2 H2 (kV (F d)) → Qg σ2 H2) → g x (wipe σ vs) H' Qg) :
    EvD K M (tCB (rLenK P w) (tCons (tScK P w (iList K tl) g tYes te vs) tNil)) σ H (.int (sall (ds.map F)).2) := fun H0 e Q q =>
  hl H0 e _ fun v d H1 e1 dv pd => by
    subst pd
    cases dv with
    | lst h1 h2 h3 =>
      rename_i a xs
      refine ⟨a, rfl, ⟨xs, sq_of h1⟩, fun D hD => ?_⟩
      have okD : ∀ {H}, Ex H1 H → H D ≠ none → Ok (TH.more M D) H := fun {H} e2 n l m => by
        rcases m with m | rfl
        · exact (ok.ex ((e.trans e1).trans e2)) l m
        · exact n
      refine ⟨fun i m H => m = ds.length - i ∧ i ≤ ds.length ∧ Ex H1 H ∧ H D = some (SetK P w D (sall ((ds.take i).map F)).1 (sall ((ds.take i).map F)).2),
        ⟨ds.length, by simp, Nat.zero_le _, Ex.new hD, upd_same⟩, ?_⟩
      rintro i m H2 ⟨rfl, hi, e2, hset⟩
      by_cases hlt : i < ds.length
      · refine .inr ⟨⟨xs, xs[i]'(by rw [h3.length]; exact hlt), sq_of (e2 _ _ h1), by simp⟩, fun H' => Ex H1 H' ∧ H' D = some (SetK P w D (sall ((ds.take (i + 1)).map F)).1 (sall ((ds.take (i + 1)).map F)).2), fun H' p' => ⟨ds.length - (i + 1), by omega, rfl, hlt, p'⟩, fun x H' y => ?_⟩
        obtain ⟨rfl, hx⟩ := y
        have hx := hx xs (sq_of (e2 _ _ h1))
        obtain ⟨d, hd, dx⟩ := h3.get hx
        have tk : (ds.take (i + 1)).map F = (ds.take i).map F ++ [F d] := by rw [List.take_add_one, hd, List.map_append]; rfl
        refine hs (TH.more M D) d x _ (fun v d h => ((h.ex (e.trans e1)).more hD).ex e2) (okD e2 (by rw [hset]; simp)) (List.mem_of_getElem? hd) ((e.trans e1).trans e2) ((dx.more hD).ex e2) _ fun σ2 H3 e3 hw he => ?_
        refine ⟨hw, ?_⟩
        show te σ2 H3 _
        refine he H3 (Ex.refl _) _ fun H4 e4 => ⟨F d, _, _, rfl, (e3.trans e4) _ _ hset, ?_, ?_, ?_⟩
        · have h1 := sadd_le ((ds.take i).map F) (fun _ => false, 0)
          rw [List.length_map, List.length_take] at h1
          have h2 : (sall ((ds.take i).map F)).2 ≤ 0 + min i ds.length := h1
          have h3 : (2000 : Nat) < scanBound := by decide
          omega
        · exact Ex.mut ((e2.trans e3).trans e4) hD
        · rw [tk]
          unfold sall
          rw [List.foldl_append]
          exact upd_same
      · have ei : i = ds.length := by omega
        subst ei
        refine .inl ⟨⟨xs, sq_of (e2 _ _ h1), by rw [h3.length]; exact Nat.le_refl _⟩, ?_⟩
        rw [List.take_length] at hset
        exact ⟨D, _, _, rfl, hset, q _ _ H2 (e1.trans e2) (.int _) rfl⟩
end
end TH
set_option maxRecDepth 100000
set_option maxHeartbeats 4000000
namespace TH
open PySem L2 Evl
abbrev sAre : Stmt := top 26
/-! ### books as data -/
abbrev Sg := Str × Int
def sgD (p : Sg) : PyData := .tuple [.str p.1, .int p.2]
def sgU : PyData → Sg
  | .tuple [.str z, .int k] => (z, k)
  | _ => (Str.empty, 0)
theorem sgU_map (S : List Sg) : (S.map sgD).map sgU = S := by
  rw [List.map_map]
  exact (List.map_congr_left fun p _ => rfl).trans (List.map_id S)
def isSignB (p : Sg) : Bool := isNameB p.1 && (decide (0 ≤ p.2) && decide (p.2 ≤ 2))
def validB (S : List Sg) : Bool :=
  (decide (1 ≤ (S.length : Int)) && decide ((S.length : Int) ≤ 6)) && (S.all isSignB && (!decide (((sall (S.map fun p => Sum.inr p.1)).2 : Int) < (S.length : Int)) && S.any fun p => decide (p.2 = 0)))
def signA : List PyData → Prop := fun ds => ∃ p : Sg, ds = [sgD p] ∧ p.1.length ≤ 100000
def signF : List PyData → PyData
  | [d] => .bool (isSignB (sgU d))
  | _ => .none
def areA : List PyData → Prop := fun ds => ∃ S : List Sg, ds = [.list (S.map sgD)] ∧ S.length ≤ 100 ∧ ∀ p ∈ S, p.1.length ≤ 100000
def areF : List PyData → PyData
  | [.list es] => .bool (validB (es.map sgU))
  | _ => .none
theorem areF_eq (S : List Sg) : areF [.list (S.map sgD)] = .bool (validB S) := by
  show PyData.bool (validB ((S.map sgD).map sgU)) = _
  rw [sgU_map]
section
variable {P : Program} {w : World} {K : PySem.W.Frag} {mg : Str → Option Value} {base : Heap}
theorem scSign : FnScope ["sign"] ["sign"] (defScope sSign) := ⟨rfl, rfl, rfl, by decide +kernel, rfl, by decide +kernel, by decide +kernel⟩
theorem ok_sign {f fN : Addr} {fd fdN : FuncData} (F : Fun K "is_sign" "is_sign" sSign f fd) (G : GlobS mg) (FN : Fun K "is_name" "is_name" sName fN fdN) (mN : mg "is_name" = some (.ref fN)) (bN : Binds K fdN ["name", "longest"] []) :
    FnOk P w K mg base CX0 2 f fd ["sign"] (spD K signA fun ds d => d = signF ds) := by
  have GN : FnOk P w K mg base CX0 1 fN fdN ["name", "longest"] (spD K nameA fun ds d => d = nameF ds) := ok_name FN G
  refine F.ok scSign (fun vs H Q E h => ?_) (fun cdv A outer s H vs Q E hr h => ?_)
  · obtain ⟨M, ds, _, dv, ⟨z, rfl, _⟩, _⟩ := h
    exact dv.length
  · obtain ⟨M, ds, ok, dv, ⟨p, rfl, hz⟩, q⟩ := h
    obtain ⟨t, hL⟩ := G.mostK
    obtain ⟨t3, hL3⟩ := G.longest
    cases dv with
    | cons h1 h2 =>
    cases h2
    rename_i v0
    refine ⟨_, pss_one (ps_ret (pe_and (pe_cmpR op_eq (pe_callB call_len_seq (by rfl) G.len PySem.boot_len (pa_cons (pv 0) pa_nil)) pe_int (nomark _))
      (pe_and (pe_call GN hr rfl mN FN.kp bN .nil pass0 (pa_cons (pe_ix ix_tup (pv 0) pe_int (fun _ _ => rfl)) (pa_cons (pe_glob rfl hL3 (show RelV (.int 3) _ from ⟨_, rfl⟩)) pa_nil)))
      (pe_one (pe_chain op_le op_le pe_int (pe_ix ix_tup (pv 0) pe_int (fun _ _ => rfl)) (pe_glob rfl hL (show RelV (.int 2) _ from ⟨_, rfl⟩))))))), ?_⟩
    have hv : ∀ {H'}, Ex H H' → EvD K M (tVar 0) (start ["sign"] [v0]) H' (sgD p) := fun e => evd_var rfl (h1.ex e)
    refine s_retP (K := K) (M := M) (evd_andV (evd_eqI (evd_lenT (eva_cons (hv (Ex.refl _)) eva_nil)) evd_int) fun _ => evd_andV ((evd_call (F := nameF) ok (eva_cons (evd_ixT (j := 0) (hv (Ex.refl _)) evd_int rfl rfl) (eva_cons evd_int eva_nil)) ⟨p.1, rfl, hz⟩)) fun _ =>
      evd_chainI (g := fun i j => decide (i ≤ j)) (g' := fun i j => decide (i ≤ j)) evd_int (evd_ixT (j := 1) (hv (Ex.refl _)) evd_int rfl rfl) evd_int) fun v d H2 e2 dv pd => q v d H2 e2 dv ?_
    rw [pd]
    rfl
theorem scAre : FnScope ["signs", "sign"] ["signs"] (defScope sAre) := ⟨rfl, rfl, rfl, by decide +kernel, rfl, by decide +kernel, by decide +kernel⟩
theorem ok_are {f fN fS : Addr} {fd fdN fdS : FuncData} (F : Fun K "are_signs" "are_signs" sAre f fd) (G : GlobS mg) (FN : Fun K "is_name" "is_name" sName fN fdN) (mN : mg "is_name" = some (.ref fN)) (bN : Binds K fdN ["name", "longest"] [])
    (FS : Fun K "is_sign" "is_sign" sSign fS fdS) (mS : mg "is_sign" = some (.ref fS)) (bS : Binds K fdS ["sign"] []) :
    FnOk P w K mg base CX0 3 f fd ["signs"] (spD K areA fun ds d => d = areF ds) := by
  have GS : FnOk P w K mg base CX0 2 fS fdS ["sign"] (spD K signA fun ds d => d = signF ds) := ok_sign FS G FN mN bN
  refine F.ok scAre (fun vs H Q E h => ?_) (fun cdv A outer s H vs Q E hr h => ?_)
  · obtain ⟨M, ds, _, dv, ⟨z, rfl, _⟩, _⟩ := h
    exact dv.length
  · obtain ⟨M, ds, ok, dv, ⟨S, rfl, hlen, hz⟩, q⟩ := h
    obtain ⟨t, hL⟩ := G.most
    cases dv with
    | cons h1 h2 =>
    cases h2
    rename_i v0
    refine ⟨_, pss_cons (ps_if (pt_not (pt_chain op_le op_le pe_int (pe_callB call_len_seq (by rfl) G.len PySem.boot_len (pa_cons (pv 0) pa_nil)) (pe_glob rfl hL (show RelV (.int 6) _ from ⟨_, rfl⟩)))) (pss_one (ps_ret pe_bl)) pss_nil)
      (pss_cons (ps_if (pt_not (pt_val (pe_callB (cr_all rfl) (by rfl) G.all (by decide +kernel) (pa_cons (pe_lc (own := [("sign", 1)]) (g := gName 1) (tt := tYes) rfl scAre.nd (pi_list (pv 0))
          (blkOk_by (N := ["signs", "sign"]) (sc := defScope sAre) (by decide +kernel)) (fun _ _ _ _ _ => pg_name (i := 1) scAre.nd rfl (.inl rfl)) (fun _ _ _ _ _ => pts_nil)
          (fun _ _ _ _ _ => pe_call GS hr rfl mS FS.kp bS .nil pass0 (pa_cons (pv 1) pa_nil))) pa_nil)))) (pss_one (ps_ret pe_bl)) pss_nil)
      (pss_cons (ps_if (pt_cmpR op_lt (pe_callB call_lenK (by rfl) G.len PySem.boot_len (pa_cons (pe_scK (own := [("sign", 1)]) (g := gName 1) (tt := tYes) rfl scAre.nd (pi_list (pv 0))
          (blkOk_by (N := ["signs", "sign"]) (sc := defScope sAre) (by decide +kernel)) (fun _ _ _ _ _ => pg_name (i := 1) scAre.nd rfl (.inl rfl)) (fun _ _ _ _ _ => pts_nil)
          (fun _ _ _ _ _ => pe_ix (ix_tupK (K := K) rfl) (pv 1) pe_int (fun _ _ => rfl))) pa_nil)) (pe_callB call_len_seq (by rfl) G.len PySem.boot_len (pa_cons (pv 0) pa_nil)) (nomark _)) (pss_one (ps_ret pe_bl)) pss_nil)
      (pss_one (ps_ret (pe_callB (cr_any rfl) (by rfl) G.any (by decide +kernel) (pa_cons (pe_lc (own := [("sign", 1)]) (g := gName 1) (tt := tYes) rfl scAre.nd (pi_list (pv 0))
          (blkOk_by (N := ["signs", "sign"]) (sc := defScope sAre) (by decide +kernel)) (fun _ _ _ _ _ => pg_name (i := 1) scAre.nd rfl (.inl rfl)) (fun _ _ _ _ _ => pts_nil)
          (fun _ _ _ _ _ => pe_cmpR op_eq (pe_ix (ix_tupK (K := K) rfl) (pv 1) pe_int (fun _ _ => rfl)) pe_int (nomark _))) pa_nil)))))), ?_⟩
    have hv : ∀ {H'}, Ex H H' → EvD K M (tVar 0) (start ["signs", "sign"] [v0]) H' (.list (S.map sgD)) := fun e => evd_var rfl (h1.ex e)
    have hlen' : (S.map sgD).length < sizeLine := by rw [List.length_map]; exact Nat.lt_of_le_of_lt hlen (by decide)
    have mem : ∀ d ∈ S.map sgD, ∃ p ∈ S, d = sgD p := fun d hd => by
      obtain ⟨p, hp, e⟩ := List.mem_map.mp hd
      exact ⟨p, hp, e.symm⟩
    have fin : ∀ b, validB S = b → PyData.bool b = areF [.list (S.map sgD)] := fun b e => by rw [areF_eq, e]
    -- the number of signs
    refine q_when (evt_not (evt_test (K := K) (M := M) (evd_chainI (g := fun i j => decide (i ≤ j)) (g' := fun i j => decide (i ≤ j)) evd_int (evd_lenL (eva_cons (hv (Ex.refl _)) eva_nil)) evd_int))) (fun hb H1 e1 => ?_) (fun hb H1 e1 => ?_)
    · refine q _ _ H1 e1 (.bl _) (fin _ ?_)
      rw [Bool.not_eq_true', List.length_map] at hb
      unfold validB
      rw [hb]
      rfl
    rw [Bool.not_eq_false', List.length_map] at hb
    have ok1 := ok.ex e1
    -- all signs are signs
    refine q_when (evt_not (evt_B (K := K) (M := M) (evd_all (bs := S.map isSignB) (eva_cons ?_ eva_nil)))) (fun hb2 H2 e2 => ?_) (fun hb2 H2 e2 => ?_)
    · refine (evd_lcL (fun _ => true) (fun d => signF [d]) ok1 (hv e1) hlen' fun M' d x H' hm ok' hd e dx Qg qg => ?_).mono fun d h => ?_
      · obtain ⟨p, hp, rfl⟩ := mem d hd
        exact qg _ H' (Ex.refl _) ⟨rfl, evt_yes, fun _ => evd_call (F := signF) ok' (eva_cons (evd_var rfl dx) eva_nil) ⟨p, rfl, hz p hp⟩⟩
      · rw [h, filter_yes, List.map_map, List.map_map]
        rfl
    · refine q _ _ H2 (e1.trans e2) (.bl _) (fin _ ?_)
      rw [Bool.not_eq_true', List.all_map] at hb2
      unfold validB
      rw [hb, show S.all isSignB = false from hb2]
      rfl
    rw [Bool.not_eq_false', List.all_map] at hb2
    have e12 := e1.trans e2
    have ok2 := ok.ex e12
    -- unlike names
    refine q_when (evt_test (K := K) (M := M) (evd_cmp (g := fun i j => decide (i < j)) (evd_lenSc (fun d => Sum.inr (sgU d).1) ok2 (hv e12) (by rw [List.length_map]; omega) fun M' d x H' hm ok' hd e dx Qg qg => ?_) (evd_lenL (eva_cons (hv e12) eva_nil)))) (fun hb3 H3 e3 => ?_) (fun hb3 H3 e3 => ?_)
    · obtain ⟨p, hp, rfl⟩ := mem d hd
      cases dx with
      | tup k1 k2 =>
        cases k2 with
        | cons r1 r2 =>
          cases r1
          exact qg _ H' (Ex.refl _) rfl (ev_op (ev_var rfl) ev_c (rv_ixT (SqT.of k1) (atI_nat (j := 0) rfl)))
    · refine q _ _ H3 (e12.trans e3) (.bl _) (fin _ ?_)
      rw [List.map_map, List.length_map] at hb3
      unfold validB
      rw [hb, show S.all isSignB = true from hb2, show decide (((sall (S.map fun p => Sum.inr p.1)).2 : Int) < (S.length : Int)) = true from hb3]
      rfl
    rw [List.map_map, List.length_map] at hb3
    have e13 := e12.trans e3
    have ok3 := ok.ex e13
    refine s_retP (K := K) (M := M) (evd_any (bs := S.map fun p => decide (p.2 = 0)) (eva_cons ?_ eva_nil)) fun v d H4 e4 dv pd => q v d H4 (e13.trans e4) dv ?_
    · refine (evd_lcL (fun _ => true) (fun d => .bool (decide ((sgU d).2 = 0))) ok3 (hv e13) hlen' fun M' d x H' hm ok' hd e dx Qg qg => ?_).mono fun d h => ?_
      · obtain ⟨p, hp, rfl⟩ := mem d hd
        exact qg _ H' (Ex.refl _) ⟨rfl, evt_yes, fun _ => evd_eqI (evd_ixT (j := 1) (evd_var rfl dx) evd_int rfl rfl) evd_int⟩
      · rw [h, filter_yes, List.map_map, List.map_map]
        rfl
    · rw [pd]
      refine fin _ ?_
      unfold validB
      rw [hb, show S.all isSignB = true from hb2, show decide (((sall (S.map fun p => Sum.inr p.1)).2 : Int) < (S.length : Int)) = false from hb3, List.any_map]
      rfl
end
end TH
set_option maxRecDepth 100000
set_option maxHeartbeats 4000000
namespace TH
open PySem L2 Evl
abbrev sInit : Stmt := inClass (top 27) 0
abbrev sMany : Stmt := inClass (top 27) 1
abbrev sHas : Stmt := inClass (top 27) 2
abbrev sNm : Stmt := inClass (top 27) 3
abbrev sKd : Stmt := inClass (top 27) 4
abbrev sNum : Stmt := inClass (top 27) 5
abbrev sLike : Stmt := inClass (top 27) 6
/-! ### a Book in the heap -/
theorem nk : ¬ (("_names" : Str) = "_kids") := by decide +kernel
def flds (l1 l2 : Addr) : List (Str × V) := putF "_kids" (.ref l2) (putF "_names" (.ref l1) [])
theorem flds_names (l1 l2 : Addr) : (flds l1 l2).lookup ("_names" : Str) = some (.ref l1) := by
  unfold flds
  rw [lookup_putF, if_neg nk, lookup_putF, if_pos rfl]
theorem flds_kids (l1 l2 : Addr) : (flds l1 l2).lookup ("_kids" : Str) = some (.ref l2) := by
  unfold flds
  rw [lookup_putF, if_pos rfl]
theorem flds_no (l1 l2 : Addr) {m : Str} (h1 : ¬ m = "_kids") (h2 : ¬ m = "_names") : (flds l1 l2).lookup m = none := by
  unfold flds
  rw [lookup_putF, if_neg h1, lookup_putF, if_neg h2]
  rfl
def BookAt (C : Addr) (M : Addr → Prop) (H : Hp) (p : Addr) (S : List Sg) : Prop :=
  ∃ dx l1 l2, H p = some (.ins C dx (flds l1 l2)) ∧ H l1 = some (.lst (S.map fun q => V.str q.1)) ∧ ¬ M l1 ∧ H l2 = some (.lst (S.map fun q => V.int q.2)) ∧ ¬ M l2
section
variable {K : PySem.W.Frag} {M M' : Addr → Prop} {H H' : Hp} {C p : Addr} {S : List Sg}
theorem BookAt.ex (h : BookAt C M H p S) (e : Ex H H') : BookAt C M H' p S := by
  obtain ⟨dx, l1, l2, h1, h2, h3, h4, h5⟩ := h
  exact ⟨dx, l1, l2, e _ _ h1, e _ _ h2, h3, e _ _ h4, h5⟩
theorem BookAt.weak (h : BookAt C M H p S) (m : ∀ a, M' a → M a) : BookAt C M' H p S := by
  obtain ⟨dx, l1, l2, h1, h2, h3, h4, h5⟩ := h
  exact ⟨dx, l1, l2, h1, h2, fun z => h3 (m _ z), h4, fun z => h5 (m _ z)⟩
theorem BookAt.more {D : Addr} (h : BookAt C M H p S) (hD : H D = none) : BookAt C (TH.more M D) H p S := by
  obtain ⟨dx, l1, l2, h1, h2, h3, h4, h5⟩ := h
  refine ⟨dx, l1, l2, h1, h2, fun z => ?_, h4, fun z => ?_⟩
  · rcases z with z | z
    · exact h3 z
    · rw [z, hD] at h2
      cases h2
  · rcases z with z | z
    · exact h5 z
    · rw [z, hD] at h4
      cases h4
theorem BookAt.upd {l : Addr} {ys : List V} {o : HO} (h : BookAt C M H p S) (hl : H l = some (.lst ys)) (m : M l) : BookAt C M (L2.upd H l o) p S := by
  obtain ⟨dx, l1, l2, h1, h2, h3, h4, h5⟩ := h
  refine ⟨dx, l1, l2, ?_, ?_, h3, ?_, h5⟩
  · rw [upd_ne (ne_of h1 hl (by intro z; cases z))]
    exact h1
  · rw [upd_ne (show l1 ≠ l from fun z => h3 (by rw [z]; exact m))]
    exact h2
  · rw [upd_ne (show l2 ≠ l from fun z => h5 (by rw [z]; exact m))]
    exact h4
theorem Dt.updI {v : V} {d : PyData} {l : Addr} {C dx : Addr} {fs : List (Str × V)} {o : HO} (h : Dt K M H v d) (hl : H l = some (.ins C dx fs)) : Dt K M (L2.upd H l o) v d :=
  Dt.move (fun a xs h n => ⟨by rw [upd_ne (ne_of h hl (by intro z; cases z))]; exact h, n⟩) (fun a xs h => by rw [upd_ne (ne_of h hl (by intro z; cases z))]; exact h) d v h
end
/-! ### what the top has written -/
structure ExcT (K : PySem.W.Frag) (mg : Str → Option Value) (x : Str) (C : Addr) : Prop where
  g : mg x = some (.ref C)
  x : PySem.W.excIn K C [.type "ValueError", .type "Exception", .type "BaseException", .type "object"] "ValueError.__new__" = true
  k : PySem.W.keepIn K (.ref C) = true
  b : PySem.W.subIn K (.ref C) (.type "BaseException") = some true
  t : PySem.W.typeIn K (.ref C) = some (.type "type")
structure BookT (K : PySem.W.Frag) (mg : Str → Option Value) (C : Addr) : Prop where
  cl : Cls K C
  n1 : NoAttr K C "_names"
  n2 : NoAttr K C "_kids"
  g : mg "Book" = some (.ref C)
section
variable {K : PySem.W.Frag} {M : Addr → Prop} {H H' : Hp} {σ : L2.St} {te : TE} {P : PyData → Prop} {D : Ends} {tz : TS} {i : Nat} {f : Str}
theorem q_fldP (h : EvP K M te σ H P) (k : ∀ v d H1, Ex H H1 → Dt K M H1 v d → P d → ∃ p C dx fs, σ[i]? = some (some (.ref p)) ∧ H1 p = some (.ins C dx fs) ∧ Cls K C ∧ NoAttr K C f ∧ fs.length < 1000 ∧ tz D σ (upd H1 p (.ins C dx (putF f v fs)))) :
    tSeq (sFld K (tVar i) te f) tz D σ H := h.use fun v d H1 e dv pd => by
  obtain ⟨p, C, dx, fs, h1, h2, h3, h4, h5, h6⟩ := k v d H1 e dv pd
  exact ⟨_, h1, p, C, dx, fs, rfl, h2, h3, h4, h5, h6⟩
theorem s_fldP (h : EvP K M te σ H P) (k : ∀ v d H1, Ex H H1 → Dt K M H1 v d → P d → ∃ p C dx fs, σ[i]? = some (some (.ref p)) ∧ H1 p = some (.ins C dx fs) ∧ Cls K C ∧ NoAttr K C f ∧ fs.length < 1000 ∧ D.nx σ (upd H1 p (.ins C dx (putF f v fs)))) :
    sFld K (tVar i) te f D σ H := h.use fun v d H1 e dv pd => by
  obtain ⟨p, C, dx, fs, h1, h2, h3, h4, h5, h6⟩ := k v d H1 e dv pd
  exact ⟨_, h1, p, C, dx, fs, rfl, h2, h3, h4, h5, h6⟩
end
/-- Book(signs) -/
def spInit (K : PySem.W.Frag) (C CN : Addr) : Sp := fun vs H Q E => ∃ (M : Addr → Prop) (p dx : Addr) (v : V) (S : List Sg), Ok M H ∧ vs = [.ref p, v] ∧ H p = some (.ins C dx []) ∧ Dt K M H v (.list (S.map sgD)) ∧ S.length ≤ 100 ∧ (∀ q ∈ S, q.1.length ≤ 100000) ∧
  (validB S = true → ∀ H', BookAt C M H' p S → (∀ b o, H b = some o → b ≠ p → H' b = some o) → Q .non H') ∧ (validB S = false → ∀ H', Ex H H' → E (.ref CN) none H')
section
variable {P : Program} {w : World} {K : PySem.W.Frag} {mg : Str → Option Value} {base : Heap}
theorem scInit : FnScope ["self", "signs", "sign"] ["self", "signs"] (defScope sInit) := ⟨rfl, rfl, rfl, by decide +kernel, rfl, by decide +kernel, by decide +kernel⟩
theorem ok_init {f fN fS fA C CN : Addr} {fd fdN fdS fdA : FuncData} (F : Fun K "__init__" "Book.__init__" sInit f fd) (G : GlobS mg) (T : BookT K mg C) (TN : ExcT K mg "NoBook" CN)
    (FN : Fun K "is_name" "is_name" sName fN fdN) (mN : mg "is_name" = some (.ref fN)) (bN : Binds K fdN ["name", "longest"] [])
    (FS : Fun K "is_sign" "is_sign" sSign fS fdS) (mS : mg "is_sign" = some (.ref fS)) (bS : Binds K fdS ["sign"] [])
    (FA : Fun K "are_signs" "are_signs" sAre fA fdA) (mA : mg "are_signs" = some (.ref fA)) (bA : Binds K fdA ["signs"] []) :
    FnOk P w K mg base (L2.CX P w) 4 f fd ["self", "signs"] (spInit K C CN) := by
  have GA : FnOk P w K mg base CX0 3 fA fdA ["signs"] (spD K areA fun ds d => d = areF ds) := ok_are FA G FN mN bN FS mS bS
  refine F.okX scInit (fun vs H Q E h => ?_) (fun cdv A outer s H vs Q E hr h => ?_)
  · obtain ⟨M, p, dx, v, S, _, rfl, _⟩ := h
    rfl
  · obtain ⟨M, p, dx, v, S, ok, rfl, hp, hv, hlen, hz, qy, qn⟩ := h
    refine ⟨_, pss_cons (ps_if (pt_not (pt_val (pe_call GA hr rfl mA FA.kp bA .nil pass0 (pa_cons (pv 1) pa_nil)))) (pss_one (ps_raise rfl (takes_of rfl rfl rfl rfl) (pmk_own PySem.F.excBase_ValueError TN.x TN.g TN.k (raises_own TN.b TN.t) rfl))) pss_nil)
      (pss_cons (ps_fld (pv 0) (pe_lc (own := [("sign", 2)]) (g := gName 2) (tt := tYes) rfl scInit.nd (pi_list (pv 1)) (blkOk_by (N := ["self", "signs", "sign"]) (sc := defScope sInit) (by decide +kernel)) (fun _ _ _ _ _ => pg_name (i := 2) scInit.nd rfl (.inl rfl)) (fun _ _ _ _ _ => pts_nil)
          (fun _ _ _ _ _ => pe_ix (ix_tupK (K := K) rfl) (pv 2) pe_int (fun _ _ => rfl))) rfl)
      (pss_one (ps_fld (pv 0) (pe_lc (own := [("sign", 2)]) (g := gName 2) (tt := tYes) rfl scInit.nd (pi_list (pv 1)) (blkOk_by (N := ["self", "signs", "sign"]) (sc := defScope sInit) (by decide +kernel)) (fun _ _ _ _ _ => pg_name (i := 2) scInit.nd rfl (.inl rfl)) (fun _ _ _ _ _ => pts_nil)
          (fun _ _ _ _ _ => pe_ix (ix_tupK (K := K) rfl) (pv 2) pe_int (fun _ _ => rfl))) rfl))), ?_⟩
    have hlen' : (S.map sgD).length < sizeLine := by rw [List.length_map]; exact Nat.lt_of_le_of_lt hlen (by decide)
    have mem : ∀ d ∈ S.map sgD, ∃ p ∈ S, d = sgD p := fun d hd => by
      obtain ⟨p, hp, e⟩ := List.mem_map.mp hd
      exact ⟨p, hp, e.symm⟩
    refine q_when (evt_not (evt_B (K := K) (M := M) ((evd_call (F := areF) ok (eva_cons (evd_var rfl hv) eva_nil) ⟨S, rfl, hlen, hz⟩).mono fun d h => h.trans (areF_eq S)))) (fun hb H1 e1 => ?_) (fun hb H1 e1 => ?_)
    · rw [Bool.not_eq_true'] at hb
      exact qn hb H1 e1
    rw [Bool.not_eq_false'] at hb
    have ok1 := ok.ex e1
    refine q_fldP (K := K) (M := M) (P := (· = .list (S.map fun q => PyData.str q.1))) ?_ fun v1 d1 H2 e2 dv1 pd1 => ⟨p, C, dx, [], rfl, (e1.trans e2) _ _ hp, T.cl, T.n1, by decide, ?_⟩
    · refine (evd_lcL (fun _ => true) (fun d => .str (sgU d).1) ok1 (evd_var rfl (hv.ex e1)) hlen' fun M' d x H' hm ok' hd e dx Qg qg => ?_).mono fun d h => ?_
      · obtain ⟨p, hp, rfl⟩ := mem d hd
        exact qg _ H' (Ex.refl _) ⟨rfl, evt_yes, fun _ => evd_ixT (j := 0) (evd_var rfl dx) evd_int rfl rfl⟩
      · rw [h, filter_yes, List.map_map]
        rfl
    subst pd1
    cases dv1 with
    | lst g1 g2 g3 =>
    rename_i l1 xs1
    have g3 : xs1 = S.map fun q => V.str q.1 := by
      have := Dts.strs (S.map fun q => q.1) (by rw [List.map_map]; exact g3)
      rw [this, List.map_map]
      rfl
    subst g3
    have hp2 : H2 p = some (.ins C dx []) := (e1.trans e2) _ _ hp
    have hv3 := ((hv.ex (e1.trans e2)).updI (o := .ins C dx (putF "_names" (.ref l1) [])) hp2)
    have ok3 : Ok M (upd H2 p (.ins C dx (putF "_names" (.ref l1) []))) := fun l m => by
      by_cases e : l = p
      · rw [e, upd_same]
        simp
      · rw [upd_ne e]
        exact ok1.ex e2 l m
    refine s_fldP (K := K) (M := M) (P := (· = .list (S.map fun q => PyData.int q.2))) ?_ fun v2 d2 H3 e3 dv2 pd2 => ⟨p, C, dx, _, rfl, e3 _ _ upd_same, T.cl, T.n2, (by show 1 < 1000; decide), ?_⟩
    · refine (evd_lcL (fun _ => true) (fun d => .int (sgU d).2) ok3 (evd_var rfl hv3) hlen' fun M' d x H' hm ok' hd e dx Qg qg => ?_).mono fun d h => ?_
      · obtain ⟨p, hp, rfl⟩ := mem d hd
        exact qg _ H' (Ex.refl _) ⟨rfl, evt_yes, fun _ => evd_ixT (j := 1) (evd_var rfl dx) evd_int rfl rfl⟩
      · rw [h, filter_yes, List.map_map]
        rfl
    subst pd2
    cases dv2 with
    | lst k1 k2 k3 =>
    rename_i l2 xs2
    have k3 : xs2 = S.map fun q => V.int q.2 := by
      have := Dts.ints (S.map fun q => q.2) (by rw [List.map_map]; exact k3)
      rw [this, List.map_map]
      rfl
    subst k3
    have hp3 : H3 p = some (.ins C dx (putF "_names" (.ref l1) [])) := e3 _ _ upd_same
    have n1 : l1 ≠ p := ne_of g1 hp2 (by intro z; cases z)
    have n2 : l2 ≠ p := ne_of k1 hp3 (by intro z; cases z)
    refine qy hb _ ⟨dx, l1, l2, upd_same, ?_, g2, ?_, k2⟩ fun b o hb hbp => ?_
    · rw [upd_ne n1]
      exact e3 _ _ (by rw [upd_ne n1]; exact g1)
    · rw [upd_ne n2]
      exact k1
    · rw [upd_ne hbp]
      exact e3 _ _ (by rw [upd_ne hbp]; exact (e1.trans e2) _ _ hb)
end
end TH
set_option maxRecDepth 100000
set_option maxHeartbeats 4000000
namespace TH
open PySem L2 Evl
/-! ### what a Book tells -/
def numV (S : List Sg) (z : Str) : V := match S.findIdx? (fun q => decide (q.1 = z)) with
  | some j => .int j
  | none => .non
def spMany (C : Addr) : Sp := fun vs H Q _ => ∃ (M : Addr → Prop) (p : Addr) (S : List Sg), vs = [.ref p] ∧ BookAt C M H p S ∧ Q (.int S.length) H
def spNm (C : Addr) : Sp := fun vs H Q _ => ∃ (M : Addr → Prop) (p : Addr) (S : List Sg) (j : Nat) (q : Sg), vs = [.ref p, .int j] ∧ BookAt C M H p S ∧ S[j]? = some q ∧ Q (.str q.1) H
def spHas (C : Addr) : Sp := fun vs H Q _ => ∃ (M : Addr → Prop) (p : Addr) (S : List Sg) (z : Int), vs = [.ref p, .int z] ∧ BookAt C M H p S ∧ ∀ H', Ex H H' → Q (.bl (decide (0 ≤ z) && decide (z < (S.length : Int)))) H'
def spKd (C : Addr) : Sp := fun vs H Q _ => ∃ (M : Addr → Prop) (p : Addr) (S : List Sg) (j : Nat) (q : Sg), vs = [.ref p, .int j] ∧ BookAt C M H p S ∧ S[j]? = some q ∧ Q (.int q.2) H
def spNum (C : Addr) : Sp := fun vs H Q _ => ∃ (M : Addr → Prop) (p : Addr) (S : List Sg) (z : Str), vs = [.ref p, .str z] ∧ BookAt C M H p S ∧ ∀ H', Ex H H' → Q (numV S z) H'
def namesOk (S : List Sg) : Prop := ∀ q ∈ S, PyData.strOk q.1 = true
def spLike (C : Addr) : Sp := fun vs H Q _ => ∃ (M M' : Addr → Prop) (p p' : Addr) (S S' : List Sg), vs = [.ref p, .ref p'] ∧ BookAt C M H p S ∧ BookAt C M' H p' S' ∧ namesOk S ∧ namesOk S' ∧
  Q (.bl (decide (S.map (·.1) = S'.map (·.1)) && decide (S.map (·.2) = S'.map (·.2)))) H
theorem hu64 {A : Around} {k : Nat} (hr : Room k A) : A.units + 64 < cLine := by
  have := hr.un
  omega
theorem eqv_strs : ∀ zs ws : List Str, PyData.eqvAll (zs.map PyData.str) (ws.map PyData.str) = decide (zs = ws)
  | [], [] => by simp [PyData.eqvAll]
  | [], _ :: _ => by simp [PyData.eqvAll]
  | _ :: _, [] => by simp [PyData.eqvAll]
  | z :: zs, w :: ws => by
    rw [List.map_cons, List.map_cons, PyData.eqvAll, eqv_strs zs ws, PyData.eqv]
    by_cases h : z = w <;> by_cases h2 : zs = ws <;> simp [h, h2]
theorem eqv_ints : ∀ zs ws : List Int, PyData.eqvAll (zs.map PyData.int) (ws.map PyData.int) = decide (zs = ws)
  | [], [] => by simp [PyData.eqvAll]
  | [], _ :: _ => by simp [PyData.eqvAll]
  | _ :: _, [] => by simp [PyData.eqvAll]
  | z :: zs, w :: ws => by
    rw [List.map_cons, List.map_cons, PyData.eqvAll, eqv_ints zs ws, PyData.eqv]
    by_cases h : z = w <;> by_cases h2 : zs = ws <;> simp [h, h2]
theorem dpAll_strs {K : PySem.W.Frag} {H : Hp} : ∀ zs : List Str, DpAll K H (zs.map V.str) (zs.map PyData.str)
  | [] => .nil
  | z :: zs => .cons (.str z) (dpAll_strs zs)
theorem dpAll_ints {K : PySem.W.Frag} {H : Hp} : ∀ zs : List Int, DpAll K H (zs.map V.int) (zs.map PyData.int)
  | [] => .nil
  | z :: zs => .cons (.int z) (dpAll_ints zs)
theorem lay_strs : ∀ zs : List Str, (∀ z ∈ zs, PyData.strOk z = true) → PyData.canLayAll0 (zs.map PyData.str) = true
  | [], _ => rfl
  | z :: zs, h => by
    rw [List.map_cons, PyData.canLayAll0, PyData.canLay0, h z List.mem_cons_self, lay_strs zs fun y hy => h y (List.mem_cons_of_mem _ hy)]
    rfl
theorem lay_ints : ∀ zs : List Int, PyData.canLayAll0 (zs.map PyData.int) = true
  | [] => rfl
  | z :: zs => by
    rw [List.map_cons, PyData.canLayAll0, PyData.canLay0, lay_ints zs]
    rfl
theorem depth_strs : ∀ zs : List Str, PyData.depthAll (zs.map PyData.str) = 0
  | [] => rfl
  | z :: zs => by rw [List.map_cons, PyData.depthAll, PyData.depth, depth_strs zs]; rfl
theorem depth_ints : ∀ zs : List Int, PyData.depthAll (zs.map PyData.int) = 0
  | [] => rfl
  | z :: zs => by rw [List.map_cons, PyData.depthAll, PyData.depth, depth_ints zs]; rfl
theorem shaped_strs (zs : List Str) (h : ∀ z ∈ zs, PyData.strOk z = true) : SeqAt.shaped (.list (zs.map PyData.str)) = true := by
  unfold SeqAt.shaped
  rw [PyData.canLay0, lay_strs zs h, PyData.depth, depth_strs]
  rfl
theorem shaped_ints (zs : List Int) : SeqAt.shaped (.list (zs.map PyData.int)) = true := by
  unfold SeqAt.shaped
  rw [PyData.canLay0, lay_ints zs, PyData.depth, depth_ints]
  rfl
section
variable {P : Program} {w : World} {K : PySem.W.Frag} {mg : Str → Option Value} {base : Heap}
theorem scMany : FnScope ["self"] ["self"] (defScope sMany) := ⟨rfl, rfl, rfl, by decide +kernel, rfl, by decide +kernel, by decide +kernel⟩
theorem ok_many {f C : Addr} {fd : FuncData} (F : Fun K "many" "Book.many" sMany f fd) (G : GlobS mg) (T : BookT K mg C) : FnOk P w K mg base CX0 1 f fd ["self"] (spMany C) := by
  refine F.ok scMany (fun vs H Q E h => ?_) (fun cdv A outer s H vs Q E hr h => ?_)
  · obtain ⟨M, p, S, rfl, _⟩ := h
    rfl
  · obtain ⟨M, p, S, rfl, ⟨dx, l1, l2, h1, h2, h3, h4, h5⟩, q⟩ := h
    refine ⟨_, pss_one (ps_ret (pe_callB call_len_seq (by rfl) G.len PySem.boot_len (pa_cons (pe_fld (pv 0) rfl) pa_nil))), ?_⟩
    refine ⟨_, rfl, p, C, dx, _, _, rfl, h1, T.cl, T.n1, flds_names _ _, _, _, rfl, .inl (SqL.of h2), ?_⟩
    rw [List.length_map]
    exact q
theorem scHas : FnScope ["self", "sign"] ["self", "sign"] (defScope sHas) := ⟨rfl, rfl, rfl, by decide +kernel, rfl, by decide +kernel, by decide +kernel⟩
theorem ok_has {f C : Addr} {fd : FuncData} (F : Fun K "has" "Book.has" sHas f fd) (G : GlobS mg) (T : BookT K mg C) : FnOk P w K mg base CX0 1 f fd ["self", "sign"] (spHas C) := by
  refine F.ok scHas (fun vs H Q E h => ?_) (fun cdv A outer s H vs Q E hr h => ?_)
  · obtain ⟨M, p, S, z, rfl, _⟩ := h
    rfl
  · obtain ⟨M, p, S, z, rfl, ⟨dx, l1, l2, h1, h2, h3, h4, h5⟩, q⟩ := h
    refine ⟨_, pss_one (ps_ret (pe_chain op_le op_lt pe_int (pv 1) (pe_callB call_len_seq (by rfl) G.len PySem.boot_len (pa_cons (pe_fld (pv 0) rfl) pa_nil)))), ?_⟩
    refine s_retP (K := K) (M := M) (evd_chainI (j := z) (k := S.length) (g := fun i j => decide (i ≤ j)) (g' := fun i j => decide (i < j)) evd_int (evd_var rfl (.int z)) fun H1 e Q q => ?_) fun v d H2 e2 dv pd => ?_
    · refine ⟨_, rfl, p, C, dx, _, _, rfl, e _ _ h1, T.cl, T.n1, flds_names _ _, _, _, rfl, .inl (SqL.of (e _ _ h2)), ?_⟩
      rw [List.length_map]
      exact q _ _ H1 (Ex.refl _) (.int _) rfl
    · subst pd
      cases dv
      exact q H2 e2
theorem scNm : FnScope ["self", "sign"] ["self", "sign"] (defScope sNm) := ⟨rfl, rfl, rfl, by decide +kernel, rfl, by decide +kernel, by decide +kernel⟩
theorem ok_nm {f C : Addr} {fd : FuncData} (F : Fun K "name" "Book.name" sNm f fd) (T : BookT K mg C) : FnOk P w K mg base CX0 1 f fd ["self", "sign"] (spNm C) := by
  refine F.ok scNm (fun vs H Q E h => ?_) (fun cdv A outer s H vs Q E hr h => ?_)
  · obtain ⟨M, p, S, j, q, rfl, _⟩ := h
    rfl
  · obtain ⟨M, p, S, j, q, rfl, ⟨dx, l1, l2, h1, h2, h3, h4, h5⟩, hj, k⟩ := h
    refine ⟨_, pss_one (ps_ret (pe_ix ix_list (pe_fld (pv 0) rfl) (pv 1) (fun _ _ => rfl))), ?_⟩
    exact ⟨_, rfl, p, C, dx, _, _, rfl, h1, T.cl, T.n1, flds_names _ _, _, rfl, _, _, _, _, rfl, rfl, SqL.of h2, atI_nat (by rw [List.getElem?_map, hj]; rfl), k⟩
theorem scKd : FnScope ["self", "sign"] ["self", "sign"] (defScope sKd) := ⟨rfl, rfl, rfl, by decide +kernel, rfl, by decide +kernel, by decide +kernel⟩
theorem ok_kd {f C : Addr} {fd : FuncData} (F : Fun K "kids" "Book.kids" sKd f fd) (T : BookT K mg C) : FnOk P w K mg base CX0 1 f fd ["self", "sign"] (spKd C) := by
  refine F.ok scKd (fun vs H Q E h => ?_) (fun cdv A outer s H vs Q E hr h => ?_)
  · obtain ⟨M, p, S, j, q, rfl, _⟩ := h
    rfl
  · obtain ⟨M, p, S, j, q, rfl, ⟨dx, l1, l2, h1, h2, h3, h4, h5⟩, hj, k⟩ := h
    refine ⟨_, pss_one (ps_ret (pe_ix ix_list (pe_fld (pv 0) rfl) (pv 1) (fun _ _ => rfl))), ?_⟩
    exact ⟨_, rfl, p, C, dx, _, _, rfl, h1, T.cl, T.n2, flds_kids _ _, _, rfl, _, _, _, _, rfl, rfl, SqL.of h4, atI_nat (by rw [List.getElem?_map, hj]; rfl), k⟩
end
end TH
set_option maxRecDepth 100000
set_option maxHeartbeats 4000000
namespace TH
open PySem L2 Evl
section
variable {X : Cx} {K : PySem.W.Frag}
theorem pg_tupK {es : List Expr} {k : Nat} {t : TGs} {n : Nat} {pos : Pos} (hK : X.K = K) (hc : X.calm = true) (h : PGs X es t)
    (hn : (assignEach es X.env).length = n := by rfl) (hst : (assignEach es X.env).findIdx? (·.1) = none := by rfl) : PG X (.Tuple es k pos) (gTup K n t) := by
  subst hK
  exact pg_tup hc h hn hst
end
section
variable {K : PySem.W.Frag} {M : Addr → Prop} {H H1 H' : Hp} {σ : L2.St} {ta tb tc te tl : TE} {P : PyData → Prop}
/-- a draw -/
theorem evp_take {E : XK} {b : Addr} {n : Int} (hb : Ev tb σ H (.ref b)) (hx : H b = some (Box b)) (hn : EvD K M te σ H (.int n)) (n0 : 0 < n) (n1 : n.natAbs < 2 ^ 200) :
    EvP K M (tCall spTake [] E (tCons tb (tCons te tNil))) σ H (fun d => ∃ k : Int, d = .int k ∧ 0 ≤ k ∧ k < n) := fun H1 e Q q =>
  hb H1 e _ fun H2 e2 => hn H2 (e.trans e2) _ fun v d H3 e3 dv pd => by
    subst pd
    cases dv
    exact ⟨b, n, rfl, ((e.trans e2).trans e3) _ _ hx, n0, n1, fun k H4 k0 k1 e4 => q _ _ H4 ((e2.trans e3).trans e4) (.int k) ⟨k, rfl, k0, k1⟩⟩
/-- texts joined -/
theorem txt_join (ys : List Str) : (Txt.join "" ys).cps.toList = (ys.map fun y => y.cps.toList).flatten := by
  rw [TL.join_eq]
  have h : TL.tl (Str.join "" ys) = _ := TL.tl_join "" ys
  have e : TL.tl ("" : Str) = [] := by decide +kernel
  rw [e] at h
  refine h.trans ?_
  clear h
  induction ys with
  | nil => rfl
  | cons y ys ih =>
    cases ys with
    | nil =>
      show TL.tl y = y.cps.toList ++ []
      rw [List.append_nil]
    | cons z zs =>
      show TL.tl y ++ ([] ++ TL.joinL [] ((z :: zs).map TL.tl)) = y.cps.toList ++ _
      rw [ih]
      rfl
theorem evp_join {PY : List Str → Prop} (h : EvP K M te σ H (fun d => ∃ ys : List Str, d = .list (ys.map PyData.str) ∧ PY ys)) (hz : ∀ ys, PY ys → (ys.map (·.length)).sum ≤ 16777216) :
    EvP K M (tM1 (fun x xs H Q => ∃ a p, ∃ ys : List Str, x = .str a ∧ xs = [.ref p] ∧ (SqL K H p (ys.map V.str) ∨ SqT K H p (ys.map V.str)) ∧ (ys.map (·.length)).sum + ys.length * a.length ≤ 16777216 ∧ Q (.str (Txt.join a ys)) H) (tC (.str "")) te) σ H
      (fun d => ∃ ys, PY ys ∧ d = .str (Txt.join "" ys)) := fun H1 e Q q => ⟨⟨_, rfl⟩, h H1 e _ fun v d H2 e2 dv pd => by
    obtain ⟨ys, rfl, py⟩ := pd
    cases dv with
    | lst k1 k2 k3 =>
      have e := k3.strs
      subst e
      refine ⟨_, _, ys, rfl, rfl, .inl (sq_of k1), ?_, q _ _ H2 e2 (.str _) ⟨ys, py, rfl⟩⟩
      have e0 : ("" : Str).length = 0 := by decide +kernel
      rw [e0, Nat.mul_zero, Nat.add_zero]
      exact hz ys py⟩
/-- in, not in a list of texts -/
theorem inV_str (z : Str) (ys : List Str) : inV (.str z) (ys.map V.str) = decide (z ∈ ys) := by
  unfold inV
  rw [List.any_map, Bool.eq_iff_iff]
  simp only [List.any_eq_true, decide_eq_true_eq, Function.comp]
  constructor
  · rintro ⟨y, hy, h⟩
    have : y = z := by
      have h : (y == z) = true := h
      simpa using h
    subst this
    exact hy
  · intro h
    refine ⟨z, h, ?_⟩
    show (z == z) = true
    simp
theorem flat_strs (ys : List Str) : (ys.map V.str).all flatV = true := by
  rw [List.all_map, List.all_eq_true]
  intro y _
  rfl
theorem flat_ints (ys : List Int) : (ys.map V.int).all flatV = true := by
  rw [List.all_map, List.all_eq_true]
  intro y _
  rfl
theorem evd_notInS {z : Str} {ys : List Str} (ha : EvD K M ta σ H (.str z)) (hb : EvD K M tb σ H (.list (ys.map PyData.str))) : EvD K M (tOp (rIn K true) ta tb) σ H (.bool (!decide (z ∈ ys))) :=
  evp_op ha hb fun x y a b H1 e dx dy px py Q q => by
    subst px py
    cases dx
    cases dy with
    | lst k1 k2 k3 =>
      have e := k3.strs
      subst e
      refine ⟨_, _, rfl, .inl (sq_of k1), rfl, flat_strs ys, ?_⟩
      rw [inV_str]
      exact q _ _ H1 (Ex.refl _) (.bl _) rfl
theorem inV_int (z : Int) (ys : List Int) : inV (.int z) (ys.map V.int) = decide (z ∈ ys) := by
  unfold inV
  rw [List.any_map, Bool.eq_iff_iff]
  simp only [List.any_eq_true, decide_eq_true_eq, Function.comp]
  constructor
  · rintro ⟨y, hy, h⟩
    have : y = z := by
      have h : (y == z) = true := h
      simpa using h
    subst this
    exact hy
  · intro h
    refine ⟨z, h, ?_⟩
    show (z == z) = true
    simp
theorem evd_inI {z : Int} {ys : List Int} (ha : EvD K M ta σ H (.int z)) (hb : EvD K M tb σ H (.list (ys.map PyData.int))) : EvD K M (tOp (rIn K false) ta tb) σ H (.bool (decide (z ∈ ys))) :=
  evp_op ha hb fun x y a b H1 e dx dy px py Q q => by
    subst px py
    cases dx
    cases dy with
    | lst k1 k2 k3 =>
      have e := k3.ints
      subst e
      refine ⟨_, _, rfl, .inl (sq_of k1), rfl, flat_ints ys, ?_⟩
      rw [inV_int]
      exact q _ _ H1 (Ex.refl _) (.bl _) rfl
/-- min of a list of ints -/
theorem evp_min {ta : TA} {ns : List Int} (h : EvDA K M ta σ H [.list (ns.map PyData.int)]) (hn : 0 < ns.length) : EvP K M (tCB (rMin K) ta) σ H (fun d => ∃ m, d = .int m ∧ m ∈ ns ∧ ∀ y ∈ ns, m ≤ y) :=
  evp_cb h fun vs ds H1 e dv pd Q q => by
    subst pd
    cases dv with
    | cons h1 h2 =>
      cases h2
      cases h1 with
      | lst k1 k2 k3 =>
        have e := k3.ints
        subst e
        exact ⟨_, ns, rfl, sq_of k1, hn, fun m hm hl => q _ _ H1 (Ex.refl _) (.int m) ⟨m, rfl, hm, hl⟩⟩
/-- an int in a comparison, where the left one is not fixed -/
theorem evp_cmp {g : Int → Int → Bool} {PA PB : PyData → Prop} (ha : EvP K M ta σ H PA) (hb : EvP K M tb σ H PB) (hi : ∀ a, PA a → ∃ i, a = .int i) (hj : ∀ a, PB a → ∃ i, a = .int i) :
    EvP K M (tOp (rI0 fun i j => .bl (g i j)) ta tb) σ H (fun d => ∃ i j, PA (.int i) ∧ PB (.int j) ∧ d = .bool (g i j)) :=
  evp_I0 ha hb fun a b pa pb => by
    obtain ⟨i, rfl⟩ := hi a pa
    obtain ⟨j, rfl⟩ := hj b pb
    exact ⟨i, j, rfl, rfl, _, ⟨i, j, pa, pb, rfl⟩, fun _ => .bl _⟩
/-- a test that is one or the other -/
theorem EvP.test {D : Ends} {tu tw : TS} {tz : TS} {PB : Bool → Prop} (h : EvP K M te σ H (fun d => ∃ b, d = .bool b ∧ PB b)) (k : ∀ b H1, Ex H H1 → PB b → if b = true then tu { D with nx := tz D } σ H1 else tw { D with nx := tz D } σ H1) : tSeq (tIfS (tTest te) tu tw) tz D σ H :=
  h.use fun v d H1 e dv pd => by
    obtain ⟨b, rfl, pb⟩ := pd
    cases dv
    exact ⟨b, rfl, k b H1 e pb⟩
end
theorem EvPA.mono {K : PySem.W.Frag} {M : Addr → Prop} {ta : TA} {σ : L2.St} {H : Hp} {P Q : List PyData → Prop} (h : EvPA K M ta σ H P) (k : ∀ d, P d → Q d) : EvPA K M ta σ H Q := fun H1 e R q => h H1 e R fun v d H2 e2 hd hp => q v d H2 e2 hd (k d hp)
/-- nothing changes -/
abbrev MF : Addr → Prop := fun _ => False
theorem okF {H : Hp} : Ok MF H := fun _ h => h.elim
section
variable {K : PySem.W.Frag} {M : Addr → Prop} {H H' : Hp} {σ : L2.St} {te : TE} {P : PyData → Prop} {D : Ends} {tz : TS} {i i' : Nat} {l : Addr} {xs : List V}
/-- l.append(e) -/
theorem s_appP (hl : H l = some (.lst xs)) (hs : σ[i]? = some (some (.ref l))) (h : EvP K M te σ H P) (hz : xs.length < sizeLine) (k : ∀ v d H1, Ex H H1 → Dt K M H1 v d → P d → D.nx σ (upd H1 l (.lst (xs ++ [v])))) :
    tDrop (tBM K "list" rAppend (tVar i) (tCons te tNil)) D σ H :=
  ⟨_, hs, .inl ⟨rfl, _, SqL.of hl⟩, h.use fun v d H1 e dv pd => ⟨l, xs, v, rfl, rfl, e _ _ hl, hz, k v d H1 e dv pd⟩⟩
theorem q_appP (hl : H l = some (.lst xs)) (hs : σ[i]? = some (some (.ref l))) (h : EvP K M te σ H P) (hz : xs.length < sizeLine) (k : ∀ v d H1, Ex H H1 → Dt K M H1 v d → P d → tz D σ (upd H1 l (.lst (xs ++ [v])))) :
    tSeq (tDrop (tBM K "list" rAppend (tVar i) (tCons te tNil))) tz D σ H := s_appP (D := { D with nx := tz D }) hl hs h hz k
/-- l[j] = e -/
theorem s_setP {j : Nat} (hl : H l = some (.lst xs)) (hs : σ[i]? = some (some (.ref l))) (hj : σ[i']? = some (some (.int (j : Int)))) (hz : j < xs.length) (h : EvP K M te σ H P) (k : ∀ v d H1, Ex H H1 → Dt K M H1 v d → P d → D.nx σ (upd H1 l (.lst (xs.set j v)))) :
    tAsg te (gSub (tVar i) (tVar i') rSetL) D σ H := h.use fun v d H1 e dv pd => ⟨_, hs, _, hj, l, xs, j, j, rfl, rfl, e _ _ hl, ixN_nat hz, k v d H1 e dv pd⟩
end
/-- nothing but flat tuples and values -/
abbrev MT : Addr → Prop := fun _ => True
theorem Dts.flat {K : PySem.W.Frag} {M : Addr → Prop} {H : Hp} {vs : List V} {ds : List PyData} (h : Dts K MT H vs ds) : Dts K M H vs ds := h.weak fun _ _ => trivial
theorem Dt.flat {K : PySem.W.Frag} {M : Addr → Prop} {H : Hp} {v : V} {d : PyData} (h : Dt K MT H v d) : Dt K M H v d := h.weak fun _ _ => trivial
theorem sgs_flat {K : PySem.W.Frag} {M : Addr → Prop} {H : Hp} : ∀ {S : List Sg} {vs : List V}, Dts K M H vs (S.map sgD) → Dts K MT H vs (S.map sgD)
  | [], _, .nil => .nil
  | q :: S, _, .cons h t => by
    refine .cons ?_ (sgs_flat t)
    cases h with
    | tup h1 h2 =>
      cases h2 with
      | cons r1 r2 =>
        cases r1
        cases r2 with
        | cons r3 r4 =>
          cases r3
          cases r4
          exact .tup h1 (.cons (.str _) (.cons (.int _) .nil))
end TH
set_option maxRecDepth 100000
set_option maxHeartbeats 4000000
namespace TH
open PySem L2 Evl
abbrev sSigns : Stmt := top 32
/-! ### good books -/
structure NameOk (z : Str) : Prop where
  lo : 1 ≤ z.length
  hi : z.length ≤ 3
  az : ∀ c ∈ z.cps.toList, 97 ≤ c ∧ c ≤ 122
structure Good0 (S : List Sg) : Prop where
  len : S.length ≤ 6
  name : ∀ q ∈ S, NameOk q.1
  kids : ∀ q ∈ S, 0 ≤ q.2 ∧ q.2 ≤ 2
  nd : (S.map (·.1)).Nodup
structure Good (S : List Sg) : Prop extends Good0 S where
  ne : 1 ≤ S.length
  leaf : ∃ q ∈ S, q.2 = 0
theorem Good0.add {S : List Sg} {z : Str} {k : Int} (h : Good0 S) (hl : S.length < 6) (hz : NameOk z) (hk : 0 ≤ k ∧ k ≤ 2) (hn : z ∉ S.map (·.1)) : Good0 (S ++ [(z, k)]) := by
  refine ⟨by rw [List.length_append]; exact hl, fun q hq => ?_, fun q hq => ?_, ?_⟩
  · rcases List.mem_append.mp hq with hq | hq
    · exact h.name q hq
    · rw [List.mem_singleton.mp hq]
      exact hz
  · rcases List.mem_append.mp hq with hq | hq
    · exact h.kids q hq
    · rw [List.mem_singleton.mp hq]
      exact hk
  · rw [List.map_append, List.nodup_append]
    refine ⟨h.nd, by simp, fun a ha b hb => ?_⟩
    have : b = z := by simpa using hb
    rw [this]
    intro e
    rw [e] at ha
    exact hn ha
theorem Good0.zero {S : List Sg} {j : Nat} {q : Sg} (h : Good0 S) (hj : S[j]? = some q) : Good (S.set j (q.1, 0)) := by
  obtain ⟨hlt, rfl⟩ := List.getElem?_eq_some_iff.mp hj
  have hm : ∀ r ∈ S.set j (S[j].1, 0), r ∈ S ∨ r = (S[j].1, 0) := fun r hr => List.mem_or_eq_of_mem_set hr
  have em : (S.set j (S[j].1, 0)).map (·.1) = S.map (·.1) := by
    rw [List.map_set]
    exact List.set_getElem_self (as := S.map (·.1)) (by rw [List.length_map]; exact hlt) |> fun h => by rw [List.getElem_map] at h; exact h
  refine ⟨⟨by rw [List.length_set]; exact h.len, fun r hr => ?_, fun r hr => ?_, by rw [em]; exact h.nd⟩, by rw [List.length_set]; omega, (S[j].1, 0), ?_, rfl⟩
  · rcases hm r hr with hr | rfl
    · exact h.name r hr
    · exact h.name S[j] (List.getElem_mem hlt)
  · rcases hm r hr with hr | rfl
    · exact h.kids r hr
    · exact ⟨Int.le_refl _, (by show (0 : Int) ≤ 2; decide)⟩
  · exact List.mem_of_getElem? (i := j) (by rw [List.getElem?_set_self hlt])
/-- _law_signs -/
def spSigns (K : PySem.W.Frag) : Sp := fun vs H Q _ => ∃ b : Addr, vs = [.ref b] ∧ H b = some (Box b) ∧
  ∀ l xs S H', Good S → Ex H H' → H l = none → H' l = some (.lst xs) → Dts K MT H' xs (S.map sgD) → Q (.ref l) H'
structure GlobL (mg : Str → Option Value) : Prop extends GlobS mg where
  min : mg "min" = none
/-- one of the letters -/
theorem letter_at {k : Int} (h0 : 0 ≤ k) (h1 : k < 26) : ∃ c, atI ("abcdefghijklmnopqrstuvwxyz" : Str).cps.toList k = some c ∧ 97 ≤ c ∧ c ≤ 122 := by
  obtain ⟨j, rfl⟩ := Int.eq_ofNat_of_zero_le h0
  have hall : ∀ j : _root_.Fin 26, ∃ c, ("abcdefghijklmnopqrstuvwxyz" : Str).cps.toList[j.val]? = some c ∧ 97 ≤ c ∧ c ≤ 122 := by
    intro j
    have e : ("abcdefghijklmnopqrstuvwxyz" : Str).cps.toList = List.range' 97 26 := by decide +kernel
    rw [e, List.getElem?_range' (by exact j.isLt)]
    exact ⟨_, rfl, by omega, by have := j.isLt; omega⟩
  obtain ⟨c, hc, h⟩ := hall ⟨j, by omega⟩
  exact ⟨c, atI_nat hc, h⟩
theorem letters_len : ("abcdefghijklmnopqrstuvwxyz" : Str).length ≤ sizeLine := by
  have e : ("abcdefghijklmnopqrstuvwxyz" : Str).length = 26 := by decide +kernel
  rw [e]
  decide
theorem ones_name {ys : List Str} (h : ∀ y ∈ ys, ∃ c : Nat, y = ⟨#[c]⟩ ∧ 97 ≤ c ∧ c ≤ 122) (h1 : 1 ≤ ys.length) (h3 : ys.length ≤ 3) : NameOk (Txt.join "" ys) := by
  have e := txt_join ys
  have hl : (Txt.join "" ys).length = ys.length := by
    show (Txt.join "" ys).cps.size = _
    rw [← Array.length_toList, e]
    clear e h1 h3
    induction ys with
    | nil => rfl
    | cons y ys ih =>
      obtain ⟨c, rfl, _⟩ := h y List.mem_cons_self
      rw [List.map_cons, List.flatten_cons, List.length_append, ih fun z hz => h z (List.mem_cons_of_mem _ hz)]
      show 1 + ys.length = ys.length + 1
      omega
  refine ⟨by rw [hl]; exact h1, by rw [hl]; exact h3, fun c hc => ?_⟩
  rw [e] at hc
  obtain ⟨l, hl, hc⟩ := List.mem_flatten.mp hc
  obtain ⟨y, hy, rfl⟩ := List.mem_map.mp hl
  obtain ⟨d, rfl, hd⟩ := h y hy
  have : c = d := by simpa using hc
  rw [this]
  exact hd
section
variable {P : Program} {w : World} {K : PySem.W.Frag} {mg : Str → Option Value} {base : Heap}
abbrev nSigns : List Str := ["_law_box_here", "_law_letters", "_law_found", "_law_turn", "_law_name", "_law_spot", "_law_letter", "_law_one", "_law_kids"]
theorem scSigns : FnScope nSigns ["_law_box_here"] (defScope sSigns) := ⟨rfl, rfl, rfl, by decide +kernel, rfl, by decide +kernel, by decide +kernel⟩
theorem ok_signs {f fT : Addr} {fd fdT : FuncData} (F : Fun K "_law_signs" "_law_signs" sSigns f fd) (G : GlobL mg)
    (GT : FnOk P w K mg base CX0 2 fT fdT ["_law_box_here", "_law_count"] spTake) (FT : PySem.W.keepIn K (.ref fT) = true) (mT : mg "_law_take" = some (.ref fT)) (bT : Binds K fdT ["_law_box_here", "_law_count"] []) :
    FnOk P w K mg base CX0 3 f fd ["_law_box_here"] (spSigns K) := by
  refine F.ok scSigns (fun vs H Q E h => ?_) (fun cdv A outer s H vs Q E hr h => ?_)
  · obtain ⟨b, rfl, _⟩ := h
    rfl
  · obtain ⟨b, rfl, hb, q⟩ := h
    refine ⟨_, pss_cons (ps_asg (pe_tup (pa_cons pe_str (pa_cons (pe_lst pa_nil) pa_nil))) (pg_tup rfl (pgs_cons (pg_name (i := 1) scSigns.nd rfl (.inr rfl)) (pgs_cons (pg_name (i := 2) scSigns.nd rfl (.inl rfl)) pgs_nil))))
      (pss_cons (ps_for PassesOwn.never rfl (pi_range1 rfl G.range (pa_cons (pe_op op_add pe_int (pe_call GT hr rfl mT FT bT .nil pass0 (pa_cons (pv 0) (pa_cons pe_int pa_nil)))) pa_nil)) (pg_name (i := 3) scSigns.nd rfl (.inl rfl))
        (pss_cons (ps_set (i := 4) scSigns.nd rfl (.inl rfl) (pe_join pe_str (pe_lc (own := [("_law_letter", 6)]) (g := gName 6) (tt := tYes) rfl scSigns.nd
            (pi_range1 rfl G.range (pa_cons (pe_op op_add pe_int (pe_call GT hr rfl mT FT bT .nil pass0 (pa_cons (pv 0) (pa_cons pe_int pa_nil)))) pa_nil))
            (blkOk_by (N := nSigns) (sc := defScope sSigns) (by decide +kernel)) (fun _ _ _ _ _ => pg_name (i := 6) scSigns.nd rfl (.inl rfl)) (fun _ _ _ _ _ => pts_nil)
            (fun _ _ _ _ _ => pe_ix ix_str (pv 1) (pe_call GT hr rfl mT FT bT .nil pass0 (pa_cons (pv 0) (pa_cons pe_int pa_nil))) (fun _ _ => rfl)))))
        (pss_one (ps_if (pt_cmpR op_notIn_seq (pv 4) (pe_lc (own := [("_law_one", 7), ("_law_kids", 8)]) (tt := tYes) rfl scSigns.nd (pi_list (pv 2))
            (blkOk_by (N := nSigns) (sc := defScope sSigns) (by decide +kernel)) (fun _ _ _ _ _ => pg_tupK (K := K) (n := 2) rfl rfl (pgs_cons (pg_name (i := 7) scSigns.nd rfl (.inl rfl)) (pgs_cons (pg_name (i := 8) scSigns.nd rfl (.inl rfl)) pgs_nil))) (fun _ _ _ _ _ => pts_nil)
            (fun _ _ _ _ _ => pv 7)) (by rfl))
          (pss_one (ps_expr (pe_bm PySem.F.plainAttrs_list PySem.F.slot_list_append PySem.F.type_list_append mt_append (pv 2) (pa_cons (pe_tup (pa_cons (pv 4) (pa_cons (pe_call GT hr rfl mT FT bT .nil pass0 (pa_cons (pv 0) (pa_cons pe_int pa_nil))) pa_nil))) pa_nil)))) pss_nil))))
      (pss_cons (ps_set (i := 5) scSigns.nd rfl (.inl rfl) (pe_call GT hr rfl mT FT bT .nil pass0 (pa_cons (pv 0) (pa_cons (pe_callB call_len_seq (by rfl) G.len PySem.boot_len (pa_cons (pv 2) pa_nil)) pa_nil))))
      (pss_cons (ps_if (pt_cmpR op_gt (pe_callB (cr_min rfl) (by rfl) G.min (by decide +kernel) (pa_cons (pe_lc (own := [("_law_name", 4), ("_law_kids", 8)]) (tt := tYes) rfl scSigns.nd (pi_list (pv 2))
            (blkOk_by (N := nSigns) (sc := defScope sSigns) (by decide +kernel)) (fun _ _ _ _ _ => pg_tupK (K := K) (n := 2) rfl rfl (pgs_cons (pg_name (i := 4) scSigns.nd rfl (.inl rfl)) (pgs_cons (pg_name (i := 8) scSigns.nd rfl (.inl rfl)) pgs_nil))) (fun _ _ _ _ _ => pts_nil)
            (fun _ _ _ _ _ => pv 8)) pa_nil)) pe_int (nomark _))
          (pss_one (ps_asg (pe_tup (pa_cons (pe_ix ix_tup (pe_ix ix_list (pv 2) (pv 5) (fun _ _ => rfl)) pe_int (fun _ _ => rfl)) (pa_cons pe_int pa_nil))) (pg_sub (pv 2) (pv 5) set_list))) pss_nil)
      (pss_one (ps_ret (pv 2)))))), ?_⟩
    refine ⟨by decide, fun l hl => ⟨by show 2 ≤ sizeLine; decide, fun t ht => ⟨t, _, rfl, SqT.of upd_same, rfl, _, _, rfl, _, _, rfl, rfl, ?_⟩⟩⟩
    have e0 : Ex H (upd H l (.lst [])) := Ex.new hl
    have e1 : Ex H (upd (upd H l (.lst [])) t (.tup [.str "abcdefghijklmnopqrstuvwxyz", .ref l])) := e0.trans (Ex.new ht)
    have hl1 : (upd (upd H l (.lst [])) t (.tup [.str "abcdefghijklmnopqrstuvwxyz", .ref l])) l = some (.lst []) := by
      rw [upd_ne (ne_of_none upd_same ht)]
      exact upd_same
    generalize hG1 : upd (upd H l (.lst [])) t (.tup [.str "abcdefghijklmnopqrstuvwxyz", .ref l]) = H1 at e1 hl1
    -- for turn in range(1 + take(box, 6))
    refine ⟨_, rfl, b, 6, rfl, e1 _ _ hb, by decide, by decide, fun d6 H2 d60 d61 e2 => ⟨_, _, rfl, rfl, _, rfl, by omega, by omega, ?_⟩⟩
    refine for_range (lo := 0) (n := (1 + d6).toNat) (fun i σ' H' => Ex H H' ∧ ∃ xs S u v, σ' = [some (.ref b), some (.str "abcdefghijklmnopqrstuvwxyz"), some (.ref l), u, v, none, none, none, none] ∧ H' l = some (.lst xs) ∧ Dts K MT H' xs (S.map sgD) ∧ Good0 S ∧ S.length ≤ i ∧ (0 < i → 1 ≤ S.length))
      ⟨e1.trans e2, [], [], none, none, rfl, e2 _ _ hl1, .nil, ⟨by decide, fun _ h => (nomatch h), fun _ h => (nomatch h), List.nodup_nil⟩, Nat.le_refl _, fun h => absurd h (Nat.lt_irrefl _)⟩ ?_ ?_
    · rintro i σ' H3 hi ⟨e3, xs, S, u, v, rfl, hl3, dS, gS, lS, nS⟩
      have hb3 := e3 _ _ hb
      have hi6 : i < 6 := by omega
      -- the name
      refine q_asgP (K := K) (M := MF) (P := fun d => ∃ z, d = .str z ∧ NameOk z) ?_ fun vz dz H4 e4 dvz hz => ?_
      · refine (evp_join (PY := fun ys => (∀ y ∈ ys, ∃ c : Nat, y = ⟨#[c]⟩ ∧ 97 ≤ c ∧ c ≤ 122) ∧ 1 ≤ ys.length ∧ ys.length ≤ 3) ?_ fun ys hy => ?_).mono fun d ⟨ys, hy, e⟩ => ⟨_, e, ones_name hy.1 hy.2.1 hy.2.2⟩
        · refine (evp_lcR (PN := fun n => 1 ≤ n ∧ n ≤ 3) (fun _ => true) (fun _ d => ∃ c : Nat, d = .str ⟨#[c]⟩ ∧ 97 ≤ c ∧ c ≤ 122) okF ?_ (fun n hn => by omega) fun M' n j H' hm ok' pn hj e Qg qg => ?_).mono ?_
          · refine (evpa_cons (evp_I0 (P := fun d => ∃ n : Int, d = .int n ∧ 1 ≤ n ∧ n ≤ 3) evd_int (evp_take (ev_var rfl) hb3 evd_int (by decide) (by decide)) ?_) eva_nil).mono ?_
            · rintro a _ rfl ⟨k, rfl, k0, k1⟩
              exact ⟨1, k, rfl, rfl, _, ⟨1 + k, rfl, by omega, by omega⟩, fun _ => .int _⟩
            · rintro d ⟨a, ds, rfl, ⟨n, rfl, h⟩, rfl⟩
              exact ⟨n, rfl, h⟩
          · refine qg _ H' (Ex.refl _) ⟨rfl, evt_yes, fun _ => evp_op (evd_var rfl (.str _)) (evp_take (ev_var rfl) (e _ _ hb3) evd_int (by decide) (by decide)) fun x y a d H5 e5 dx dy px py Q q => ?_⟩
            obtain ⟨k, rfl, k0, k1⟩ := py
            subst px
            cases dx
            cases dy
            obtain ⟨c, hc, h⟩ := letter_at k0 k1
            exact ⟨_, k, c, rfl, rfl, letters_len, hc, q _ _ H5 (Ex.refl _) (.str _) ⟨c, rfl, h⟩⟩
          · rintro d ⟨n, es, pn, rfl, pr⟩
            rw [filter_yes] at pr
            have hlen := paired_len pr
            rw [List.length_range] at hlen
            have hm := paired_mem pr
            refine ⟨es.map fun d => match d with | .str z => z | _ => Str.empty, ?_, ?_, ?_, ?_⟩
            · congr 1
              rw [List.map_map]
              refine (List.map_id es).symm.trans (List.map_congr_left fun d hd => ?_)
              obtain ⟨_, _, c, rfl, _⟩ := hm d hd
              rfl
            · intro y hy
              obtain ⟨d, hd, rfl⟩ := List.mem_map.mp hy
              obtain ⟨_, _, c, rfl, h⟩ := hm d hd
              exact ⟨c, rfl, h⟩
            · rw [List.length_map]
              omega
            · rw [List.length_map]
              omega
        · have h1 : ∀ l : List Str, (∀ y ∈ l, ∃ c : Nat, y = ⟨#[c]⟩ ∧ 97 ≤ c ∧ c ≤ 122) → (l.map (·.length)).sum = l.length := by
            intro l
            induction l with
            | nil => intro _; rfl
            | cons y l ih =>
              intro h
              obtain ⟨c, rfl, _⟩ := h y List.mem_cons_self
              rw [List.map_cons, List.sum_cons, ih fun z hz => h z (List.mem_cons_of_mem _ hz), List.length_cons]
              show 1 + l.length = _
              omega
          rw [h1 ys hy.1]
          omega
      · obtain ⟨z, rfl, hz⟩ := hz
        cases dvz
        have hl4 := e4 _ _ hl3
        have dS4 := dS.ex e4
        have hb4 := e4 _ _ hb3
        -- if name not in [one for one, kids in found]
        refine s_when (evt_test (K := K) (M := MF) (evd_notInS (ys := S.map (·.1)) (evd_var rfl (.str z)) ?_)) (fun hn H5 e5 => ?_) (fun hn H5 e5 => ?_)
        · refine (evd_lcL (fun _ => true) (fun d => .str (sgU d).1) okF (evd_var rfl (.lst hl4 (fun h => h) dS4.flat)) (by rw [List.length_map]; exact Nat.lt_of_le_of_lt gS.len (by decide)) fun M' d x H' hm ok' hd e dx Qg qg => ?_).mono fun d h => ?_
          · obtain ⟨p, hp, rfl⟩ := List.mem_map.mp hd
            cases dx with
            | tup k1 k2 =>
              cases k2 with
              | cons r1 r2 =>
                cases r1
                cases r2 with
                | cons r3 r4 =>
                  cases r4
                  exact ⟨_, _, rfl, SqT.of k1, rfl, _, _, rfl, _, _, rfl, rfl, qg _ H' (Ex.refl _) ⟨rfl, evt_yes, fun _ => evd_var rfl (.str _)⟩⟩
          · rw [h, filter_yes, List.map_map, List.map_map]
            rfl
        · have hn' : z ∉ S.map (·.1) := by simpa using hn
          refine s_appP (K := K) (M := MT) (P := fun d => ∃ k : Int, d = .tuple [.str z, .int k] ∧ 0 ≤ k ∧ k < 3) (e5 _ _ hl4) rfl ?_ (Nat.lt_of_le_of_lt (by rw [dS.length, List.length_map]; exact gS.len) (by decide)) fun v d H6 e6 dv hd => ?_
          · refine (evp_tup (evpa_cons (evd_var rfl (.str z)) (evpa_cons (evp_take (ev_var rfl) (e5 _ _ hb4) evd_int (by decide) (by decide)) eva_nil)) ?_).mono ?_
            · rintro ds ⟨a, ds, rfl, rfl, c, ds', rfl, _, rfl⟩
              show 2 ≤ sizeLine
              decide
            · rintro d ⟨ds, rfl, a, ds, rfl, rfl, c, ds', rfl, ⟨k, rfl, h⟩, rfl⟩
              exact ⟨k, rfl, h⟩
          · obtain ⟨k, rfl, k0, k1⟩ := hd
            have hl6 := (e5.trans e6) _ _ hl4
            refine ⟨Ex.mut ((e3.trans e4).trans (e5.trans e6)) hl, xs ++ [v], S ++ [(z, k)], _, _, rfl, upd_same, ?_, gS.add (by omega) hz ⟨k0, by omega⟩ hn', ?_, fun _ => ?_⟩
            · rw [List.map_append]
              exact ((dS4.ex (e5.trans e6)).append (.one dv)).upd hl6 trivial
            · rw [List.length_append]
              exact Nat.succ_le_succ lS
            · rw [List.length_append]
              exact Nat.le_add_left _ _
        · have hn' : z ∈ S.map (·.1) := by simpa using hn
          refine ⟨(e3.trans e4).trans e5, xs, S, _, _, rfl, e5 _ _ hl4, dS4.ex e5, gS, Nat.le_succ_of_le lS, fun _ => ?_⟩
          obtain ⟨p, hp, _⟩ := List.mem_map.mp hn'
          exact List.length_pos_of_mem hp
    · rintro σ' H3 ⟨e3, xs, S, u, v, rfl, hl3, dS, gS, lS, nS⟩
      have ne : 1 ≤ S.length := nS (by omega)
      have hb3 := e3 _ _ hb
      -- spot
      refine q_asgP (K := K) (M := MF) (evp_take (n := ((S.map sgD).length : Int)) (ev_var rfl) hb3 (evd_lenL (eva_cons (evd_var rfl (.lst hl3 (fun h => h) dS.flat)) eva_nil)) (by rw [List.length_map]; omega) (by rw [List.length_map]; exact Nat.lt_of_le_of_lt (show ((S.length : Nat) : Int).natAbs ≤ 6 by have := gS.len; omega) (by decide))) fun vz dz H4 e4 dvz hz => ?_
      obtain ⟨k, rfl, k0, k1⟩ := hz
      cases dvz
      rw [List.length_map] at k1
      obtain ⟨j, rfl⟩ := Int.eq_ofNat_of_zero_le k0
      have hj : j < S.length := by omega
      have hl4 := e4 _ _ hl3
      have dS4 := dS.ex e4
      have e04 := e3.trans e4
      -- min
      refine EvP.test (K := K) (M := MF) (PB := fun b => (b = true → ∀ p ∈ S, 0 < p.2) ∧ (b = false → ∃ p ∈ S, p.2 = 0)) ?_ fun c H5 e5 hc => ?_
      · refine (evp_cmp (g := fun i j => decide (j < i)) (evp_min (ns := S.map (·.2)) (eva_cons ?_ eva_nil) (by rw [List.length_map]; exact ne)) evd_int (fun a ⟨m, e, _⟩ => ⟨m, e⟩) (fun a e => ⟨0, e⟩)).mono ?_
        · refine (evd_lcL (fun _ => true) (fun d => .int (sgU d).2) okF (evd_var rfl (.lst hl4 (fun h => h) dS4.flat)) (by rw [List.length_map]; exact Nat.lt_of_le_of_lt gS.len (by decide)) fun M' d x H' hm ok' hd e dx Qg qg => ?_).mono fun d h => ?_
          · obtain ⟨p, hp, rfl⟩ := List.mem_map.mp hd
            cases dx with
            | tup k1 k2 =>
              cases k2 with
              | cons r1 r2 =>
                cases r1
                cases r2 with
                | cons r3 r4 =>
                  cases r4
                  cases r3
                  exact ⟨_, _, rfl, SqT.of k1, rfl, _, _, rfl, _, _, rfl, rfl, qg _ H' (Ex.refl _) ⟨rfl, evt_yes, fun _ => evd_var rfl (.int _)⟩⟩
          · rw [h, filter_yes, List.map_map, List.map_map]
            rfl
        · rintro d ⟨m, z, ⟨m', em, hm, hall⟩, ez, rfl⟩
          cases em
          cases ez
          refine ⟨_, rfl, fun h p hp => ?_, fun h => ?_⟩
          · have h1 : 0 < m := of_decide_eq_true h
            exact Int.lt_of_lt_of_le h1 (hall _ (List.mem_map_of_mem hp))
          · have h1 : ¬ 0 < m := of_decide_eq_false h
            obtain ⟨p, hp, rfl⟩ := List.mem_map.mp hm
            exact ⟨p, hp, by have := (gS.kids p hp).1; omega⟩
      · have hl5 := e5 _ _ hl4
        have dS5 := dS4.ex e5
        cases c with
        | true =>
          have hjl : j < xs.length := by rw [dS.length, List.length_map]; exact hj
          have hSj : S[j]? = some S[j] := List.getElem?_eq_getElem hj
          refine iteT (s_setP (K := K) (M := MT) (P := (· = sgD (S[j].1, 0))) (j := j) hl5 rfl rfl hjl ?_ fun v d H6 e6 dv hd => ?_)
          · obtain ⟨vj, hvj, dvj⟩ := dS5.at (i := j) (d := sgD S[j]) (by rw [List.getElem?_map, hSj]; rfl)
            exact evd_tup (ds := [.str S[j].1, .int 0]) (eva_cons (evd_ixT (j := 0) (ds := [.str S[j].1, .int S[j].2]) (evd_of (ev_op (ev_var rfl) (ev_var rfl) (rv_ixL (sq_of hl5) (atI_nat hvj))) dvj) evd_int rfl rfl) (eva_cons evd_int eva_nil)) (by show 2 ≤ sizeLine; decide)
          · subst hd
            refine ⟨_, rfl, q l _ (S.set j (S[j].1, 0)) _ (gS.zero hSj) (Ex.mut ((e04.trans e5).trans e6) hl) hl upd_same ?_⟩
            rw [List.map_set]
            exact ((dS5.ex e6).set j dv).upd (e6 _ _ hl5) trivial
        | false =>
          exact iteF ⟨_, rfl, q l xs S H5 ⟨gS, ne, hc.2 rfl⟩ (e04.trans e5) hl hl5 dS5⟩
end
end TH
set_option maxRecDepth 100000
set_option maxHeartbeats 4000000
namespace TH
open PySem L2 Evl
/-- a method that keeps its promise -/
def OneM (P : Program) (w : World) (K : PySem.W.Frag) (mg : Str → Option Value) (base : Heap) (C : Addr) (m : Str) (k : Nat) (ps : List Str) (sp : Sp) : Prop :=
  ∃ (f : Addr) (fd : FuncData), Meth K C m f ∧ FnOk P w K mg base CX0 k f fd ps sp ∧ Binds K fd ps []
/-- a def that keeps its promise -/
def OneF (P : Program) (w : World) (K : PySem.W.Frag) (mg : Str → Option Value) (base : Heap) (x : Str) (k : Nat) (ps : List Str) (sp : Sp) : Prop :=
  ∃ (f : Addr) (fd : FuncData), mg x = some (.ref f) ∧ PySem.W.keepIn K (.ref f) = true ∧ FnOk P w K mg base CX0 k f fd ps sp ∧ Binds K fd ps []
end TH
namespace TH
/-! ### trees, their rows, their sizes -/
inductive Tr where
  | n0 (s : Nat)
  | n1 (s : Nat) (t : Tr)
  | n2 (s : Nat) (t u : Tr)
  deriving DecidableEq
namespace Tr
def root : Tr → Nat
  | n0 s => s
  | n1 s _ => s
  | n2 s _ _ => s
def kids : Tr → List Tr
  | n0 _ => []
  | n1 _ t => [t]
  | n2 _ t u => [t, u]
def row : Tr → List Nat
  | n0 s => [s]
  | n1 s t => s :: row t
  | n2 s t u => s :: (row t ++ row u)
def rowF (ts : List Tr) : List Nat := (ts.map row).flatten
def size (t : Tr) : Nat := t.row.length
def sizeF (ts : List Tr) : Nat := (rowF ts).length
def sizes : Tr → List Nat
  | n0 _ => [1]
  | n1 s t => (1 + size t) :: sizes t
  | n2 s t u => (1 + (size t + size u)) :: (sizes t ++ sizes u)
def sizesF (ts : List Tr) : List Nat := (ts.map sizes).flatten
theorem rowF_nil : rowF [] = [] := rfl
theorem rowF_cons (t : Tr) (ts : List Tr) : rowF (t :: ts) = t.row ++ rowF ts := by
  unfold rowF
  rw [List.map_cons, List.flatten_cons]
theorem rowF_app (ts us : List Tr) : rowF (ts ++ us) = rowF ts ++ rowF us := by
  unfold rowF
  rw [List.map_append, List.flatten_append]
theorem sizesF_cons (t : Tr) (ts : List Tr) : sizesF (t :: ts) = t.sizes ++ sizesF ts := by
  unfold sizesF
  rw [List.map_cons, List.flatten_cons]
theorem sizesF_app (ts us : List Tr) : sizesF (ts ++ us) = sizesF ts ++ sizesF us := by
  unfold sizesF
  rw [List.map_append, List.flatten_append]
theorem sizeF_cons (t : Tr) (ts : List Tr) : sizeF (t :: ts) = t.size + sizeF ts := by
  unfold sizeF size
  rw [rowF_cons, List.length_append]
theorem sizeF_app (ts us : List Tr) : sizeF (ts ++ us) = sizeF ts + sizeF us := by
  unfold sizeF
  rw [rowF_app, List.length_append]
theorem sizeF_nil : sizeF [] = 0 := rfl
theorem row_eq (t : Tr) : t.row = t.root :: rowF t.kids := by
  cases t with
  | n0 s => rfl
  | n1 s t => show s :: row t = s :: rowF [t]; rw [rowF_cons, rowF_nil, List.append_nil]
  | n2 s t u => show s :: (row t ++ row u) = s :: rowF [t, u]; rw [rowF_cons, rowF_cons, rowF_nil, List.append_nil]
theorem size_eq (t : Tr) : t.size = 1 + sizeF t.kids := by
  unfold size sizeF
  rw [row_eq, List.length_cons, Nat.add_comm]
theorem sizes_eq (t : Tr) : t.sizes = t.size :: sizesF t.kids := by
  cases t with
  | n0 s => rfl
  | n1 s t => 
    rw [size_eq]
    show (1 + size t) :: sizes t = (1 + sizeF [t]) :: sizesF [t]
    rw [sizeF_cons, sizesF_cons]
    show _ = (1 + (t.size + 0)) :: (t.sizes ++ [])
    rw [List.append_nil, Nat.add_zero]
  | n2 s t u => 
    rw [size_eq]
    show (1 + (size t + size u)) :: (sizes t ++ sizes u) = (1 + sizeF [t, u]) :: sizesF [t, u]
    rw [sizeF_cons, sizesF_cons, sizeF_cons, sizesF_cons]
    show _ = (1 + (t.size + (u.size + 0))) :: (t.sizes ++ (u.sizes ++ []))
    rw [List.append_nil, Nat.add_zero]
theorem kids_le (t : Tr) : t.kids.length ≤ 2 := by
  cases t with
  | n0 s => exact Nat.zero_le _
  | n1 s t => exact Nat.le_succ _
  | n2 s t u => exact Nat.le_refl _
theorem size_pos (t : Tr) : 0 < t.size := by
  rw [size_eq]
  omega
/-- an induction by kids -/
theorem ind {P : Tr → Prop} (h : ∀ t, (∀ k ∈ t.kids, P k) → P t) : ∀ t, P t
  | n0 s => h _ fun k hk => nomatch hk
  | n1 s t => by
    have h1 := ind h t
    refine h _ fun k hk => ?_
    rw [List.mem_singleton.mp hk]
    exact h1
  | n2 s t u => by
    have h1 := ind h t
    have h2 := ind h u
    refine h _ fun k hk => ?_
    rcases List.mem_cons.mp hk with hk | hk
    · rw [hk]
      exact h1
    · rw [List.mem_singleton.mp hk]
      exact h2
theorem sizes_len : ∀ t : Tr, t.sizes.length = t.size
  | n0 s => rfl
  | n1 s t => by
    rw [sizes_eq, List.length_cons, size_eq]
    show (sizesF [t]).length + 1 = 1 + sizeF [t]
    rw [sizesF_cons, sizeF_cons, List.length_append, sizes_len t]
    show t.size + 0 + 1 = 1 + (t.size + 0)
    omega
  | n2 s t u => by
    rw [sizes_eq, List.length_cons, size_eq]
    show (sizesF [t, u]).length + 1 = 1 + sizeF [t, u]
    rw [sizesF_cons, sizeF_cons, List.length_append, sizes_len t, sizesF_cons, sizeF_cons, List.length_append, sizes_len u]
    show t.size + (u.size + 0) + 1 = 1 + (t.size + (u.size + 0))
    omega
theorem sizesF_len (ts : List Tr) : (sizesF ts).length = sizeF ts := by
  induction ts with
  | nil => rfl
  | cons t ts ih => rw [sizesF_cons, sizeF_cons, List.length_append, ih, sizes_len]
/-- where the j-th of them begins -/
theorem sizesF_at {ts : List Tr} {j : Nat} {u : Tr} (h : ts[j]? = some u) (r : List Nat) : (sizesF ts ++ r)[sizeF (ts.take j)]? = some u.size := by
  induction ts generalizing j with
  | nil => cases h
  | cons t ts ih =>
    cases j with
    | zero =>
      have h : some t = some u := h
      cases h
      rw [sizesF_cons, sizes_eq]
      rfl
    | succ j =>
      have h : ts[j]? = some u := h
      rw [List.take_succ_cons, sizeF_cons, sizesF_cons, List.append_assoc, List.getElem?_append_right (by rw [sizes_len]; omega), sizes_len, Nat.add_sub_cancel_left]
      exact ih h
theorem take_snoc {α : Type} {ts : List α} {j : Nat} {u : α} (h : ts[j]? = some u) : ts.take (j + 1) = ts.take j ++ [u] := by
  rw [List.take_add_one, h]
  rfl
theorem sizeF_take {ts : List Tr} {j : Nat} {u : Tr} (h : ts[j]? = some u) : sizeF (ts.take (j + 1)) = sizeF (ts.take j) + u.size := by
  rw [take_snoc h, sizeF_app, sizeF_cons, sizeF_nil, Nat.add_zero]
theorem rowF_drop {ts : List Tr} {j : Nat} : (rowF ts).drop (sizeF (ts.take j)) = rowF (ts.drop j) := by
  have e : rowF ts = rowF (ts.take j) ++ rowF (ts.drop j) := by rw [← rowF_app, List.take_append_drop]
  rw [e]
  exact List.drop_left
/-! ### what is left of a wood from the n-th sign on -/
def next : List Tr → List Tr
  | [] => []
  | t :: ts => t.kids ++ ts
def suf : Nat → List Tr → List Tr
  | 0, ts => ts
  | n + 1, ts => suf n (next ts)
theorem rowF_next (ts : List Tr) : rowF (next ts) = (rowF ts).drop 1 := by
  cases ts with
  | nil => rfl
  | cons t ts =>
    show rowF (t.kids ++ ts) = _
    rw [rowF_app, rowF_cons, row_eq]
    rfl
theorem rowF_suf (n : Nat) : ∀ ts : List Tr, rowF (suf n ts) = (rowF ts).drop n := by
  induction n with
  | zero => intro ts; rfl
  | succ n ih =>
    intro ts
    show rowF (suf n (next ts)) = _
    rw [ih, rowF_next, List.drop_drop, Nat.add_comm]
theorem suf_succ (n : Nat) : ∀ ts : List Tr, suf (n + 1) ts = next (suf n ts) := by
  induction n with
  | zero => intro ts; rfl
  | succ n ih =>
    intro ts
    show suf (n + 1) (next ts) = next (suf n (next ts))
    exact ih _
theorem suf_add (m n : Nat) (ts : List Tr) : suf (m + n) ts = suf n (suf m ts) := by
  induction n with
  | zero => rfl
  | succ n ih => rw [← Nat.add_assoc, suf_succ, suf_succ, ih]
theorem rowF_empty {ts : List Tr} : rowF ts = [] ↔ ts = [] := by
  cases ts with
  | nil => exact ⟨fun _ => rfl, fun _ => rfl⟩
  | cons t ts =>
    rw [rowF_cons, row_eq]
    exact ⟨fun h => by simp at h, fun h => by simp at h⟩
theorem suf_nil {n : Nat} {ts : List Tr} : suf n ts = [] ↔ sizeF ts ≤ n := by
  rw [← rowF_empty, rowF_suf, List.drop_eq_nil_iff]
  rfl
theorem suf_cons {n : Nat} {ts : List Tr} (h : n < sizeF ts) : ∃ u us, suf n ts = u :: us ∧ (rowF ts)[n]? = some u.root := by
  cases e : suf n ts with
  | nil => exact absurd (suf_nil.mp e) (by omega)
  | cons u us =>
    refine ⟨u, us, rfl, ?_⟩
    have q := rowF_suf n ts
    rw [e, rowF_cons, row_eq] at q
    have q2 : ((rowF ts).drop n)[0]? = some u.root := by rw [← q]; rfl
    rwa [List.getElem?_drop, Nat.add_zero] at q2
theorem row_one (t : Tr) : rowF [t] = t.row := by rw [rowF_cons, rowF_nil, List.append_nil]
theorem size_one (t : Tr) : sizeF [t] = t.size := by rw [sizeF_cons, sizeF_nil, Nat.add_zero]
theorem sizes_one (t : Tr) : sizesF [t] = t.sizes := by rw [sizesF_cons]; exact List.append_nil _
/-- past the whole of a wood -/
theorem suf_app (ts us : List Tr) : suf (sizeF ts) (ts ++ us) = us := by
  have key : ∀ n : Nat, ∀ ts : List Tr, sizeF ts = n → suf n (ts ++ us) = us := by
    intro n
    induction n with
    | zero =>
      intro ts h
      have : ts = [] := by
        have := (suf_nil (n := 0) (ts := ts)).mpr (by omega)
        exact this
      rw [this]
      rfl
    | succ n ih =>
      intro ts h
      cases ts with
      | nil => rw [sizeF_nil] at h; omega
      | cons t ts =>
        show suf n (next (t :: (ts ++ us))) = us
        show suf n (t.kids ++ (ts ++ us)) = us
        rw [← List.append_assoc]
        refine ih _ ?_
        rw [sizeF_cons, size_eq] at h
        rw [sizeF_app]
        omega
  exact key _ ts rfl
theorem suf_in (n : Nat) : ∀ (ts us : List Tr), n ≤ sizeF ts → suf n (ts ++ us) = suf n ts ++ us := by
  induction n with
  | zero => intro ts us _; rfl
  | succ n ih =>
    intro ts us h
    cases ts with
    | nil => rw [sizeF_nil] at h; omega
    | cons t ts =>
      show suf n (t.kids ++ (ts ++ us)) = suf n (t.kids ++ ts) ++ us
      rw [← List.append_assoc]
      refine ih _ _ ?_
      rw [sizeF_cons, size_eq] at h
      rw [sizeF_app]
      omega
/-- the j-th kid of what stands at p -/
theorem suf_kid {n j : Nat} {ts us : List Tr} {u k : Tr} (h : suf n ts = u :: us) (hk : u.kids[j]? = some k) : suf (n + 1 + sizeF (u.kids.take j)) ts = k :: (u.kids.drop (j + 1) ++ us) := by
  rw [suf_add, suf_succ, h]
  show suf (sizeF (u.kids.take j)) (u.kids ++ us) = _
  obtain ⟨hlt, e⟩ := List.getElem?_eq_some_iff.mp hk
  have e2 : u.kids ++ us = u.kids.take j ++ (u.kids.drop j ++ us) := by rw [← List.append_assoc, List.take_append_drop]
  rw [e2, suf_app, List.drop_eq_getElem_cons hlt, e]
  rfl
/-- a part's row within the whole one -/
theorem suf_row {n : Nat} {ts us : List Tr} {u : Tr} (h : suf n ts = u :: us) : ((rowF ts).drop n).take u.size = u.row ∧ n + u.size ≤ sizeF ts ∧ (rowF ts).drop (n + u.size) = rowF us := by
  have e : (rowF ts).drop n = u.row ++ rowF us := by rw [← rowF_suf, h, rowF_cons]
  have hl : (rowF ts).length - n = u.size + (rowF us).length := by
    have := congrArg List.length e
    rwa [List.length_drop, List.length_append] at this
  have hp := size_pos u
  refine ⟨by rw [e]; exact List.take_left, by unfold sizeF; omega, ?_⟩
  rw [← List.drop_drop, e]
  exact List.drop_left
theorem sizesF_next (ts : List Tr) : sizesF (next ts) = (sizesF ts).drop 1 := by
  cases ts with
  | nil => rfl
  | cons t ts =>
    show sizesF (t.kids ++ ts) = _
    rw [sizesF_app, sizesF_cons, sizes_eq]
    rfl
theorem sizesF_suf (n : Nat) : ∀ ts : List Tr, sizesF (suf n ts) = (sizesF ts).drop n := by
  induction n with
  | zero => intro ts; rfl
  | succ n ih =>
    intro ts
    show sizesF (suf n (next ts)) = _
    rw [ih, sizesF_next, List.drop_drop, Nat.add_comm]
theorem sizes_at {n : Nat} {t u : Tr} {us : List Tr} (h : suf n [t] = u :: us) : t.sizes[n]? = some u.size := by
  have q := sizesF_suf n [t]
  rw [h, sizes_one, sizesF_cons, sizes_eq u] at q
  have q2 : ((t.sizes).drop n)[0]? = some u.size := by rw [← q]; rfl
  rwa [List.getElem?_drop, Nat.add_zero] at q2
theorem row_at {n : Nat} {t u : Tr} {us : List Tr} (h : suf n [t] = u :: us) : t.row[n]? = some u.root := by
  have q := rowF_suf n [t]
  rw [h, row_one, rowF_cons, row_eq u] at q
  have q2 : ((t.row).drop n)[0]? = some u.root := by rw [← q]; rfl
  rwa [List.getElem?_drop, Nat.add_zero] at q2
/-! ### rows that are rows of trees -/
/-- the trees of a book: each sign with as many kids as the book says -/
def Ok (n : Nat) (ar : Nat → Nat) : Tr → Prop
  | n0 s => s < n ∧ ar s = 0
  | n1 s t => s < n ∧ ar s = 1 ∧ Ok n ar t
  | n2 s t u => s < n ∧ ar s = 2 ∧ Ok n ar t ∧ Ok n ar u
variable {n : Nat} {ar : Nat → Nat}
theorem Ok.root {t : Tr} (h : Ok n ar t) : t.root < n := by
  cases t with
  | n0 s => exact h.1
  | n1 s t => exact h.1
  | n2 s t u => exact h.1
theorem Ok.kids {t : Tr} (h : Ok n ar t) : ∀ k ∈ t.kids, Ok n ar k := by
  cases t with
  | n0 s => intro k hk; cases hk
  | n1 s t =>
    intro k hk
    rw [List.mem_singleton.mp hk]
    exact h.2.2
  | n2 s t u =>
    intro k hk
    rcases List.mem_cons.mp hk with rfl | hk
    · exact h.2.2.1
    · rw [List.mem_singleton.mp hk]
      exact h.2.2.2
theorem Ok.ark {t : Tr} (h : Ok n ar t) : ar t.root = t.kids.length := by
  cases t with
  | n0 s => exact h.2
  | n1 s t => exact h.2.1
  | n2 s t u => exact h.2.1
theorem okF_next {ts : List Tr} (h : ∀ t ∈ ts, Ok n ar t) : ∀ t ∈ next ts, Ok n ar t := by
  cases ts with
  | nil => exact h
  | cons t ts =>
    intro u hu
    rcases List.mem_append.mp hu with hu | hu
    · exact (h t List.mem_cons_self).kids u hu
    · exact h u (List.mem_cons_of_mem _ hu)
theorem okF_suf (m : Nat) : ∀ {ts : List Tr}, (∀ t ∈ ts, Ok n ar t) → ∀ t ∈ suf m ts, Ok n ar t := by
  induction m with
  | zero => intro ts h; exact h
  | succ m ih => intro ts h; exact ih (okF_next h)
/-- the count of trees that are due -/
def run (n : Nat) (ar : Nat → Nat) : Nat → List Nat → Option Nat
  | d, [] => some d
  | d, s :: r => if d = 0 then none else if s < n then run n ar (d - 1 + ar s) r else none
theorem run_app (r1 r2 : List Nat) : ∀ {d e : Nat}, run n ar d r1 = some e → run n ar d (r1 ++ r2) = run n ar e r2 := by
  induction r1 with
  | nil =>
    intro d e h
    cases h
    rfl
  | cons s r ih =>
    intro d e h
    rw [run] at h
    rw [List.cons_append, run]
    split at h
    · cases h
    · split at h
      · rename_i h1 h2
        rw [if_neg h1, if_pos h2]
        exact ih h
      · cases h
theorem run_snoc {r : List Nat} {d e s : Nat} (h : run n ar d r = some e) (he : 0 < e) (hs : s < n) : run n ar d (r ++ [s]) = some (e - 1 + ar s) := by
  rw [run_app r [s] h, run, if_neg (by omega), if_pos hs, run]
/-- a row without any due is the row of a tree -/
theorem run_wood (ha : ∀ s, ar s ≤ 2) : ∀ (r : List Nat) (d : Nat), run n ar d r = some 0 → ∃ ts : List Tr, ts.length = d ∧ (∀ t ∈ ts, Ok n ar t) ∧ rowF ts = r
  | [], d, h => by
    cases h
    exact ⟨[], rfl, fun t ht => (nomatch ht), rfl⟩
  | s :: r, d, h => by
    rw [run] at h
    split at h
    · cases h
    · split at h
      · rename_i h1 h2
        obtain ⟨ts, hl, ho, hr⟩ := run_wood ha r _ h
        have h3 := ha s
        rcases (show ar s = 0 ∨ ar s = 1 ∨ ar s = 2 by omega) with e | e | e
        · refine ⟨n0 s :: ts, by rw [List.length_cons]; omega, fun t ht => ?_, ?_⟩
          · rcases List.mem_cons.mp ht with rfl | ht
            · exact ⟨h2, e⟩
            · exact ho t ht
          · rw [rowF_cons, hr]
            rfl
        · match ts, hl, ho, hr with
          | a :: us, hl, ho, hr =>
            refine ⟨n1 s a :: us, by rw [List.length_cons] at hl ⊢; omega, fun t ht => ?_, ?_⟩
            · rcases List.mem_cons.mp ht with rfl | ht
              · exact ⟨h2, e, ho a List.mem_cons_self⟩
              · exact ho t (List.mem_cons_of_mem _ ht)
            · rw [rowF_cons] at hr ⊢
              rw [← hr]
              rfl
          | [], hl, _, _ => rw [List.length_nil] at hl; omega
        · match ts, hl, ho, hr with
          | a :: b :: us, hl, ho, hr =>
            refine ⟨n2 s a b :: us, by rw [List.length_cons, List.length_cons] at hl; rw [List.length_cons]; omega, fun t ht => ?_, ?_⟩
            · rcases List.mem_cons.mp ht with rfl | ht
              · exact ⟨h2, e, ho a List.mem_cons_self, ho b (List.mem_cons_of_mem _ List.mem_cons_self)⟩
              · exact ho t (List.mem_cons_of_mem _ (List.mem_cons_of_mem _ ht))
            · rw [rowF_cons, rowF_cons] at hr
              rw [rowF_cons, ← hr, row, List.cons_append, List.append_assoc]
          | [], hl, _, _ => rw [List.length_nil] at hl; omega
          | [_], hl, _, _ => rw [List.length_cons, List.length_nil] at hl; omega
      · cases h
theorem run_rowF : ∀ (m : Nat) (ts : List Tr), sizeF ts ≤ m → (∀ t ∈ ts, Ok n ar t) → run n ar ts.length (rowF ts) = some 0
  | m, [], _, _ => rfl
  | 0, t :: ts, hm, _ => by
    rw [sizeF_cons] at hm
    have := size_pos t
    omega
  | m + 1, t :: ts, hm, ho => by
    have ht := ho t List.mem_cons_self
    rw [rowF_cons, row_eq, List.cons_append, run, if_neg (by rw [List.length_cons]; omega), if_pos ht.root, ht.ark, ← rowF_app, List.length_cons]
    have e : ts.length + 1 - 1 + t.kids.length = (t.kids ++ ts).length := by rw [List.length_append]; omega
    rw [e]
    refine run_rowF m _ ?_ fun u hu => ?_
    · rw [sizeF_cons, size_eq] at hm
      rw [sizeF_app]
      omega
    · rcases List.mem_append.mp hu with hu | hu
      · exact ht.kids u hu
      · exact ho u (List.mem_cons_of_mem _ hu)
theorem run_row {t : Tr} (h : Ok n ar t) : run n ar 1 t.row = some 0 := by
  have := run_rowF (n := n) (ar := ar) _ [t] (Nat.le_refl _) fun u hu => by rw [List.mem_singleton.mp hu]; exact h
  rwa [row_one] at this
theorem run_tree (ha : ∀ s, ar s ≤ 2) {r : List Nat} (h : run n ar 1 r = some 0) : ∃ t, Ok n ar t ∧ t.row = r := by
  obtain ⟨ts, hl, ho, hr⟩ := run_wood ha r 1 h
  match ts, hl with
  | [t], _ => exact ⟨t, ho t List.mem_cons_self, by rw [← hr, row_one]⟩
theorem row_lt {t : Tr} (h : Ok n ar t) : ∀ s ∈ t.row, s < n := by
  intro s hs
  obtain ⟨j, hj⟩ := List.mem_iff_getElem?.mp hs
  have hlt : j < sizeF [t] := by
    rw [size_one]
    exact (List.getElem?_eq_some_iff.mp hj).1
  obtain ⟨u, us, e, er⟩ := suf_cons hlt
  rw [row_one, hj] at er
  cases er
  exact (okF_suf j (ts := [t]) (fun v hv => by rw [List.mem_singleton.mp hv]; exact h) u (by rw [e]; exact List.mem_cons_self)).root
end Tr
end TH
set_option maxRecDepth 100000
set_option maxHeartbeats 4000000
namespace TH
open PySem L2 Evl
/-! ### books and rows -/
/-- how many kids the j-th sign has -/
def ks (S : List Sg) (j : Nat) : Nat := match S[j]? with
  | some q => q.2.toNat
  | none => 0
def KidsOk (S : List Sg) : Prop := ∀ q ∈ S, 0 ≤ q.2 ∧ q.2 ≤ 2
theorem ks_of {S : List Sg} {j : Nat} {q : Sg} (h : S[j]? = some q) : ks S j = q.2.toNat := by
  unfold ks
  rw [h]
theorem ks_le {S : List Sg} (h : KidsOk S) (j : Nat) : ks S j ≤ 2 := by
  unfold ks
  split
  · rename_i q e
    have := h q (List.mem_of_getElem? e)
    omega
  · exact Nat.zero_le _
theorem Good.kidsOk {S : List Sg} (h : Good S) : KidsOk S := h.kids
abbrev OkT (S : List Sg) (t : Tr) : Prop := Tr.Ok S.length (ks S) t
/-- a tuple, a list of ints -/
def tupI (ns : List Int) : PyData := .tuple (ns.map PyData.int)
def ofN (r : List Nat) : List Int := r.map fun (s : Nat) => (s : Int)
theorem ofN_len (r : List Nat) : (ofN r).length = r.length := List.length_map _
theorem ofN_at {r : List Nat} {j s : Nat} (h : r[j]? = some s) : (ofN r)[j]? = some (s : Int) := by
  unfold ofN
  rw [List.getElem?_map, h]
  rfl
def rowD (t : Tr) : PyData := tupI (ofN t.row)
section
variable {K : PySem.W.Frag} {M M' : Addr → Prop} {H H1 H' : Hp} {σ : L2.St} {ta tb te tc : TE} {v : V} {ns : List Int}
theorem dt_tupS (h : Dt K M H v (tupI ns)) : ∃ a, v = .ref a ∧ H a = some (.tup (ns.map V.int)) := by
  unfold tupI at h
  cases h with
  | tup h1 h2 =>
    rw [h2.ints] at h1
    exact ⟨_, rfl, h1⟩
theorem dt_tup (h : Dt K M H v (tupI ns)) : ∃ a, v = .ref a ∧ SqT K H a (ns.map V.int) := by
  obtain ⟨a, e, h1⟩ := dt_tupS h
  exact ⟨a, e, SqT.of h1⟩
theorem dt_of_tup {a : Addr} (h : H a = some (.tup (ns.map V.int))) : Dt K M H (.ref a) (tupI ns) := .tup h (Dts.of_ints ns)
theorem dt_any (h : Dt K M H v (tupI ns)) : Dt K M' H v (tupI ns) := by
  obtain ⟨a, rfl, h1⟩ := dt_tupS h
  exact dt_of_tup h1
/-! ### the book asked -/
theorem evd_many {C p : Addr} {S : List Sg} {i : Nat} {E : XK} (hs : σ[i]? = some (some (.ref p))) (hB : BookAt C M H p S) : EvD K M' (tMeth C "many" (spMany C) [] E (tVar i) tNil) σ H (.int S.length) := fun H1 e Q q => by
  have h := hB.ex e
  have h' := h
  obtain ⟨dx, l1, l2, h1, _⟩ := h'
  exact ⟨_, hs, p, dx, _, rfl, h1, flds_no _ _ (by decide +kernel) (by decide +kernel), M, p, S, rfl, h, q _ _ H1 (Ex.refl _) (.int _) rfl⟩
theorem evd_has {C p : Addr} {S : List Sg} {i : Nat} {z : Int} {E : XK} (hs : σ[i]? = some (some (.ref p))) (hB : BookAt C M H p S) (ha : EvD K M' ta σ H (.int z)) :
    EvD K M' (tMeth C "has" (spHas C) [] E (tVar i) (tCons ta tNil)) σ H (.bool (decide (0 ≤ z) && decide (z < (S.length : Int)))) := fun H1 e Q q => by
  have h := hB.ex e
  have h' := h
  obtain ⟨dx, l1, l2, h1, _⟩ := h'
  refine ⟨_, hs, p, dx, _, rfl, h1, flds_no _ _ (by decide +kernel) (by decide +kernel), ha H1 e _ fun v d H2 e2 dv pd => ?_⟩
  subst pd
  cases dv
  exact ⟨M, p, S, z, rfl, h.ex e2, fun H3 e3 => q _ _ H3 (e2.trans e3) (.bl _) rfl⟩
theorem evd_kids {C p : Addr} {S : List Sg} {i j : Nat} {z : Int} {r : Sg} {E : XK} (hs : σ[i]? = some (some (.ref p))) (hB : BookAt C M H p S) (ha : EvD K M' ta σ H (.int z)) (hz : z = (j : Int)) (hj : S[j]? = some r) :
    EvD K M' (tMeth C "kids" (spKd C) [] E (tVar i) (tCons ta tNil)) σ H (.int r.2) := fun H1 e Q q => by
  have h := hB.ex e
  have h' := h
  obtain ⟨dx, l1, l2, h1, _⟩ := h'
  refine ⟨_, hs, p, dx, _, rfl, h1, flds_no _ _ (by decide +kernel) (by decide +kernel), ha H1 e _ fun v d H2 e2 dv pd => ?_⟩
  subst pd
  cases dv
  subst hz
  exact ⟨M, p, S, j, r, rfl, h.ex e2, hj, q _ _ H2 e2 (.int _) rfl⟩
end
structure BookK (P : Program) (w : World) (K : PySem.W.Frag) (mg : Str → Option Value) (base : Heap) (C : Addr) : Prop where
  T : BookT K mg C
  many : OneM P w K mg base C "many" 1 ["self"] (spMany C)
  kids : OneM P w K mg base C "kids" 1 ["self", "sign"] (spKd C)
/-! ### is_row -/
def runB (S : List Sg) : Nat → List Int → Bool
  | d, [] => decide (d = 0)
  | d, z :: r => if d = 0 then false else if 0 ≤ z ∧ z < S.length then runB S (d - 1 + ks S z.toNat) r else false
theorem runB_run {S : List Sg} : ∀ (r : List Nat) (d : Nat), runB S d (ofN r) = decide (Tr.run S.length (ks S) d r = some 0)
  | [], d => by
    show decide (d = 0) = decide (some d = some 0)
    simp
  | s :: r, d => by
    show runB S d ((s : Int) :: ofN r) = _
    rw [runB, Tr.run]
    by_cases h : d = 0
    · rw [if_pos h, if_pos h]
      rfl
    · rw [if_neg h, if_neg h]
      by_cases h2 : s < S.length
      · rw [if_pos ⟨by omega, by omega⟩, if_pos h2]
        exact runB_run r _
      · rw [if_neg (by omega), if_neg h2]
        rfl
theorem runB_row {S : List Sg} {t : Tr} (h : OkT S t) : runB S 1 (ofN t.row) = true := by
  rw [runB_run, decide_eq_true_eq]
  exact Tr.run_row h
/-- a row of ints without any due is the row of a tree -/
theorem runB_tree {S : List Sg} (hk : KidsOk S) {ns : List Int} (h : runB S 1 ns = true) : ∃ t, OkT S t ∧ ns = ofN t.row := by
  have hn : ∀ (ns : List Int) (d : Nat), runB S d ns = true → ∃ r : List Nat, ns = ofN r := by
    intro ns
    induction ns with
    | nil => exact fun d _ => ⟨[], rfl⟩
    | cons z ns ih =>
      intro d h
      rw [runB] at h
      split at h
      · cases h
      · split at h
        · rename_i h2
          obtain ⟨r, rfl⟩ := ih _ h
          refine ⟨z.toNat :: r, ?_⟩
          show z :: ofN r = (z.toNat : Int) :: ofN r
          rw [Int.toNat_of_nonneg h2.1]
        · cases h
  obtain ⟨r, rfl⟩ := hn ns 1 h
  rw [runB_run, decide_eq_true_eq] at h
  obtain ⟨t, ht, rfl⟩ := Tr.run_tree (ks_le hk) h
  exact ⟨t, ht, rfl⟩
structure GlobR (mg : Str → Option Value) : Prop where
  mostT : ∃ t, mg "MOST_SIGNS_trees" = some (.int 40 t)
  reversed : mg "reversed" = none
section
variable {K : PySem.W.Frag} {M M' : Addr → Prop} {H H1 H' : Hp} {σ : L2.St} {ta tb te tc : TE} {v : V} {ns : List Int} {D : Ends} {tu tz : TS}
theorem ev_ofI {i : Int} (h : EvD K M te σ H (.int i)) : Ev te σ H (.int i) := fun H1 e Q q => h H1 e _ fun v d H2 e2 dv pd => by
  subst pd
  cases dv
  exact q H2 e2
theorem ev_ofB {i : Bool} (h : EvD K M te σ H (.bool i)) : Ev te σ H (.bl i) := fun H1 e Q q => h H1 e _ fun v d H2 e2 dv pd => by
  subst pd
  cases dv
  exact q H2 e2
theorem s_forRev {j n : Nat} (h : Ev te σ H (.int (n : Int))) (hn : n ≤ 100000) (Pv : Nat → L2.St → Hp → Prop) (h0 : ∀ H1, Ex H H1 → Pv 0 σ H1)
    (hs : ∀ (i : Nat) σ' H', i < n → Pv i σ' H' → tu { D with nx := Pv (i + 1), ct := Pv (i + 1), bk := D.nx } (σ'.set j (some (.int ((n - 1 - i : Nat) : Int)))) H') (hd : ∀ σ' H', Pv n σ' H' → D.nx σ' H') : tFor (iRevR (tRg1 te)) (gName j) tu D σ H :=
  h H (Ex.refl H) _ fun H1 e => ⟨_, rfl, by omega, by omega, by omega, by omega, by
    have e0 : ((n : Int) - 0).toNat = n := by omega
    rw [e0]
    exact for_rangeC (lo := 0 + (n : Int) - 1) (c := -1) (n := n) Pv (h0 H1 e) (fun i σ' H' hi p => by
      have e1 : (0 : Int) + (n : Int) - 1 + (i : Int) * (-1) = ((n - 1 - i : Nat) : Int) := by omega
      show tu { D with nx := Pv (i + 1), ct := Pv (i + 1), bk := D.nx } (σ'.set j (some (.int ((0 : Int) + (n : Int) - 1 + (i : Int) * (-1))))) H'
      rw [e1]
      exact hs i σ' H' hi p) hd⟩
theorem q_forRev {j n : Nat} (h : Ev te σ H (.int (n : Int))) (hn : n ≤ 100000) (Pv : Nat → L2.St → Hp → Prop) (h0 : ∀ H1, Ex H H1 → Pv 0 σ H1)
    (hs : ∀ (i : Nat) σ' H', i < n → Pv i σ' H' → tu { D with nx := Pv (i + 1), ct := Pv (i + 1), bk := tz D } (σ'.set j (some (.int ((n - 1 - i : Nat) : Int)))) H') (hd : ∀ σ' H', Pv n σ' H' → tz D σ' H') : tSeq (tFor (iRevR (tRg1 te)) (gName j) tu) tz D σ H :=
  s_forRev (D := { D with nx := tz D }) h hn Pv h0 hs hd
end
/-! ### is_tree, check_tree -/
def treeB (S : List Sg) (ns : List Int) : Bool := decide ((ns.length : Int) ≤ 40) && runB S 1 ns
theorem treeB_row {S : List Sg} {t : Tr} (h : OkT S t) (hl : t.size ≤ 40) : treeB S (ofN t.row) = true := by
  unfold treeB
  rw [runB_row h, ofN_len, decide_eq_true (by unfold Tr.size at hl; omega)]
  rfl
/-! ### sizes_of -/
def nums (r : List Nat) : List V := r.map fun (s : Nat) => V.int (s : Int)
theorem nums_len (r : List Nat) : (nums r).length = r.length := List.length_map _
theorem nums_app (r q : List Nat) : nums (r ++ q) = nums r ++ nums q := List.map_append
theorem nums_at {r : List Nat} {j s : Nat} (h : r[j]? = some s) : (nums r)[j]? = some (.int (s : Int)) := by
  unfold nums
  rw [List.getElem?_map, h]
  rfl
theorem nums_dts {K : PySem.W.Frag} {M : Addr → Prop} {H : Hp} (r : List Nat) : Dts K M H (nums r) ((ofN r).map PyData.int) := by
  have e : nums r = (ofN r).map V.int := by
    unfold nums ofN
    rw [List.map_map]
    rfl
  rw [e]
  exact Dts.of_ints _
def intsD (r : List Nat) : PyData := .list ((ofN r).map PyData.int)
/-! ### data by its size and its depth -/
theorem lay_all : ∀ {ds : List PyData}, (∀ d ∈ ds, d.canLay0 = true) → PyData.canLayAll0 ds = true
  | [], _ => rfl
  | d :: ds, h => by
    rw [PyData.canLayAll0, h d List.mem_cons_self, lay_all fun e he => h e (List.mem_cons_of_mem _ he)]
    rfl
theorem depth_all {n : Nat} : ∀ {ds : List PyData}, (∀ d ∈ ds, d.depth ≤ n) → PyData.depthAll ds ≤ n
  | [], _ => Nat.zero_le _
  | d :: ds, h => by
    rw [PyData.depthAll]
    exact Nat.max_le.mpr ⟨h d List.mem_cons_self, depth_all fun e he => h e (List.mem_cons_of_mem _ he)⟩
/-- data that may be laid, of a small depth -/
structure Flat (n : Nat) (d : PyData) : Prop where
  lay : d.canLay0 = true
  depth : d.depth ≤ n
theorem flat_int (i : Int) : Flat 0 (.int i) := ⟨rfl, Nat.le_refl _⟩
theorem flat_list {n : Nat} {ds : List PyData} (h : ∀ d ∈ ds, Flat n d) : Flat (n + 1) (.list ds) :=
  ⟨by rw [PyData.canLay0]; exact lay_all fun d hd => (h d hd).lay, by rw [PyData.depth]; have := depth_all fun d hd => (h d hd).depth; omega⟩
theorem flat_tup {n : Nat} {ds : List PyData} (h : ∀ d ∈ ds, Flat n d) : Flat (n + 1) (.tuple ds) :=
  ⟨by rw [PyData.canLay0]; exact lay_all fun d hd => (h d hd).lay, by rw [PyData.depth]; have := depth_all fun d hd => (h d hd).depth; omega⟩
theorem flat_tupI (ns : List Int) : Flat 1 (tupI ns) := flat_tup fun d hd => by
  obtain ⟨i, _, rfl⟩ := List.mem_map.mp hd
  exact flat_int i
theorem Flat.shaped {n : Nat} {d : PyData} (h : Flat n d) (hn : n ≤ 20) : SeqAt.shaped d = true := by
  unfold SeqAt.shaped
  rw [h.lay, decide_eq_true (by have := h.depth; omega)]
  rfl
theorem Flat.self {n : Nat} {d : PyData} (h : Flat n d) : PyData.eqv d d = true := SeqAt.eqv_refl _ h.lay
section
variable {K : PySem.W.Frag} {M M' : Addr → Prop} {H H1 H' : Hp} {σ : L2.St} {ta tb te tc : TE} {v : V} {d1 d2 : PyData}
theorem evd_eqD {n m : Nat} (ha : EvD K M ta σ H d1) (hb : EvD K M tb σ H d2) (f1 : Flat n d1) (f2 : Flat m d2) (hn : n ≤ 20 := by decide) (hm : m ≤ 20 := by decide) : EvD K M (tOp (rEqD K) ta tb) σ H (.bool (PyData.eqv d1 d2)) :=
  evp_op ha hb fun x y a b H1 e dx dy px py Q q => by
    subst px py
    exact ⟨_, _, dx.dp, dy.dp, f1.shaped hn, f2.shaped hm, q _ _ H1 (Ex.refl _) (.bl _) rfl⟩
theorem evd_neD {n m : Nat} (ha : EvD K M ta σ H d1) (hb : EvD K M tb σ H d2) (f1 : Flat n d1) (f2 : Flat m d2) (hn : n ≤ 20 := by decide) (hm : m ≤ 20 := by decide) : EvD K M (tOp (rNeD K) ta tb) σ H (.bool (!PyData.eqv d1 d2)) :=
  evp_op ha hb fun x y a b H1 e dx dy px py Q q => by
    subst px py
    exact ⟨_, _, dx.dp, dy.dp, f1.shaped hn, f2.shaped hm, q _ _ H1 (Ex.refl _) (.bl _) rfl⟩
/-- tuples put together, a part of a tuple -/
theorem evd_catA {ds es : List PyData} (ha : EvD K M ta σ H (.tuple ds)) (hb : EvD K M tb σ H (.tuple es)) (hs : ds.length + es.length ≤ 100000) : EvD K M (tOp (rCatA K) ta tb) σ H (.tuple (ds ++ es)) :=
  evp_op ha hb fun x y a b H1 e dx dy px py Q q => by
    subst px py
    cases dx with
    | tup h1 h3 =>
      cases dy with
      | tup k1 k3 =>
        refine ⟨_, _, _, _, rfl, rfl, SqT.of h1, SqT.of k1, by rw [h3.length, k3.length]; exact sz_of hs, fun e0 => ?_, fun _ e0 => ?_, fun _ _ p hp => q _ _ _ (Ex.new hp) (.tup upd_same ((h3.append k3).ex (Ex.new hp))) rfl⟩
        · subst e0
          cases h3
          exact q _ _ H1 (Ex.refl _) (.tup k1 k3) rfl
        · subst e0
          cases k3
          exact q _ _ H1 (Ex.refl _) (.tup h1 h3) (by rw [List.append_nil])
theorem evd_slT {ds : List PyData} {tl th : TO} {lo hi : Option Int} (ha : EvD K M ta σ H (.tuple ds)) (hl : EvPO K M tl σ H lo) (hh : EvPO K M th σ H hi) : EvD K M (tSl (rSlA K) ta tl th) σ H (.tuple (cutG ds lo hi)) := fun H1 e Q q =>
  ha H1 e _ fun v d H2 e2 dv pd => hl H2 (e.trans e2) _ fun H3 e3 => hh H3 ((e.trans e2).trans e3) _ fun H4 e4 => by
    subst pd
    cases dv.ex (e3.trans e4) with
    | tup h1 h3 =>
      refine ⟨_, _, rfl, SqT.of h1, fun hw => q _ _ H4 ((e2.trans e3).trans e4) (.tup h1 h3) ?_, fun _ p hp => q _ _ _ (((e2.trans e3).trans e4).trans (Ex.new hp)) (.tup upd_same (h3.cut.ex (Ex.new hp))) rfl⟩
      unfold cutG
      rw [h3.length] at hw
      rw [hw.1, hw.2, List.drop_zero, Nat.sub_zero, List.take_length]
theorem cutG_nat {α : Type} (xs : List α) (i j : Nat) (h : i ≤ j) (hj : j ≤ xs.length) : cutG xs (some (i : Int)) (some (j : Int)) = (xs.drop i).take (j - i) := by
  unfold cutG
  rw [HT.sIx_nat, HT.sIx_nat, Nat.min_eq_left (Nat.le_trans h hj), Nat.min_eq_left hj]
theorem cutG_to {α : Type} (xs : List α) (j : Nat) (hj : j ≤ xs.length) : cutG xs none (some (j : Int)) = xs.take j := by
  unfold cutG
  rw [HT.sIx_nat, HT.sIx_none, Nat.min_eq_left hj]
  rfl
theorem cutG_from {α : Type} (xs : List α) (i : Nat) (hj : i ≤ xs.length) : cutG xs (some (i : Int)) none = xs.drop i := by
  unfold cutG
  rw [HT.sIx_nat, HT.sIx_none, Nat.min_eq_left hj, List.take_of_length_le (by rw [List.length_drop]; exact Nat.le_refl _)]
/-- a test of which something is known -/
def EvTP (tt : TT) (σ : L2.St) (H : Hp) (PB : Bool → Prop) : Prop := ∀ H1, Ex H H1 → ∀ Q : Bool → Hp → Prop, (∀ b H2, Ex H1 H2 → PB b → Q b H2) → tt σ H1 Q
theorem evtp_of {t : TT} {b : Bool} (h : EvT t σ H b) : EvTP t σ H (· = b) := fun H1 e Q q => h H1 e Q fun H2 e2 => q b H2 e2 rfl
theorem evtp_test {PB : Bool → Prop} (h : EvP K M te σ H (fun d => ∃ b, d = .bool b ∧ PB b)) : EvTP (tTest te) σ H PB := fun H1 e Q q => h H1 e _ fun v d H2 e2 dv pd => by
  obtain ⟨b, rfl, pb⟩ := pd
  cases dv
  exact ⟨b, rfl, q b H2 e2 pb⟩
theorem evtp_or {t u : TT} {PA PB : Bool → Prop} (h1 : EvTP t σ H PA) (h2 : PA false → EvTP u σ H PB) : EvTP (tOr t u) σ H (fun b => PA true ∧ b = true ∨ PA false ∧ PB b) := fun H1 e Q q => h1 H1 e _ fun b H2 e2 pb => by
  cases b with
  | true => exact q true H2 e2 (.inl ⟨pb, rfl⟩)
  | false => exact h2 pb H2 (e.trans e2) Q fun b H3 e3 p3 => q b H3 (e2.trans e3) (.inr ⟨pb, p3⟩)
theorem EvTP.mono {t : TT} {PA PB : Bool → Prop} (h : EvTP t σ H PA) (k : ∀ b, PA b → PB b) : EvTP t σ H PB := fun H1 e Q q => h H1 e Q fun b H2 e2 pb => q b H2 e2 (k b pb)
theorem s_whenP {t : TT} {tu : TS} {D : Ends} {PB : Bool → Prop} (h : EvTP t σ H PB) (h1 : PB true → ∀ H1, Ex H H1 → tu D σ H1) (h2 : PB false → ∀ H1, Ex H H1 → D.nx σ H1) : tIfS t tu tNext D σ H := h H (Ex.refl H) _ fun b H1 e pb => by
  cases b with
  | true => exact h1 pb H1 e
  | false => exact h2 pb H1 e
theorem eqv_list (ds es : List PyData) : PyData.eqv (.list ds) (.list es) = PyData.eqvAll ds es := by rw [PyData.eqv]
theorem eqv_tup (ds es : List PyData) : PyData.eqv (.tuple ds) (.tuple es) = PyData.eqvAll ds es := by rw [PyData.eqv]
theorem eqv_tupI (ns ms : List Int) : PyData.eqv (tupI ns) (tupI ms) = decide (ns = ms) := by
  unfold tupI
  rw [eqv_tup, eqv_ints]
theorem flat_intsD (c : List Nat) : Flat 1 (intsD c) := flat_list fun d hd => by
  obtain ⟨i, _, rfl⟩ := List.mem_map.mp hd
  exact flat_int i
theorem eqv_nil (c : List Nat) : PyData.eqv (intsD c) (.list []) = decide (c = []) := by
  unfold intsD
  rw [eqv_list, show ([] : List PyData) = ([] : List Int).map PyData.int from rfl, eqv_ints]
  unfold ofN
  cases c with
  | nil => rfl
  | cons a c => rfl
/-- how many kids, by the list of signs -/
theorem evd_ar {S : List Sg} {i k j : Nat} {z : Int} {v : V} {q : Sg} (hs : σ[i]? = some (some v)) (hv : Dt K M H v (.list (S.map sgD))) (hz : EvD K M te σ H (.int z)) (ez : z = (j : Int)) (hq : S[j]? = some q) :
    EvD K M (tOp (rIxT K) (tOp (rIxL K) (tVar i) te) (tC (.int 1))) σ H (.int q.2) :=
  evd_ixT (j := 1) (ds := [.str q.1, .int q.2]) ((evd_ixL (j := j) (d := sgD q) (evd_var hs hv) hz ez (by rw [List.getElem?_map, hq]; rfl)).mono fun d h => h) evd_int rfl rfl
end
end TH
set_option maxRecDepth 100000
set_option maxHeartbeats 4000000
namespace TH
open PySem L2 Evl
/-! ### a method as a value, and its call through a local name -/
def tBnM (C : Addr) (m : Str) (g : Addr) (ta : TE) : TE := fun σ H Q => ta σ H fun x H1 => ∃ a dx fs, x = .ref a ∧ H1 a = some (.ins C dx fs) ∧ fs.lookup m = none ∧ ∀ q, H1 q = none → Q (.ref q) (upd H1 q (.met g a))
def tCallM (g : Addr) (sp : Sp) (E : XK) (tf : TE) (t : TA) : TE := fun σ H Q => tf σ H fun v H1 => ∃ q a, v = .ref q ∧ t σ H1 fun vs H2 => H2 q = some (.met g a) ∧ sp (.ref a :: vs) H2 Q E
section
variable {X : Cx} {CX : CXT} {k : Nat} {C g : Addr} {m x : Str} {sp : Sp} {E : XK} {o e : Expr} {es : List Expr} {ta tf : TE} {t : TA} {pos nm : Pos}
theorem pe_bnM (he : PE X o ta) (c : Cls X.K C) (b : BMeth X.K C m g) (hb : attributeBase o m X.env (eval o X.env) = eval o X.env := by rfl) : PE X (.Attribute o m pos) (tBnM C m g ta) := by
  refine ⟨fun pins s σ H Q I h => ?_⟩
  refine attr_of hb (thn (he.run pins s σ H _ I h) fun u s1 ⟨x, H1, I1, rx, a, dx, fs, ex, ea, l, q⟩ => ?_)
  subst ex
  exact op_getbound I1 ea c b l rx q
theorem pe_callM (hf : PE X (.Name x nm) tf) (F : FnR X.prog X.w X.K X.mg X.base CX k g sp) (hr : Room k X.A) (hx : Passes CX X E) (fi : PySem.W.fnIn X.K g = true) (ha : PA X (e :: es) t)
    (he : starEach (e :: es) X.env = (false, eval e X.env) :: starEach es X.env := by rfl) (hpl : (backTo pos (starEach es X.env)).any (·.1) = false := by rfl) : PE X (.Call (.Name x nm) (e :: es) [] pos) (tCallM g sp E tf t) := by
  refine ⟨fun pins s σ H Q I h => ?_⟩
  refine wpAny_Call_Name_kw (thn (hf.run pins s σ H _ I h) fun f s0 ⟨v, H0, I0, r0, q, a, ev, q0⟩ => ?_)
  subst ev
  obtain rfl : f = Value.ref q := r0
  have z : wpAny (model X.prog X.w) X.A (spliced (backTo pos (starEach (e :: es) X.env))) (fun vs s₁ => PySem.W.MethP X.K q g (.ref a) s₁.heap ∧ wpAny (model X.prog X.w) X.A (call (.ref q) ([] ++ vs)) (EP X pins σ Q) X.xe s₁) X.xe s0 :=
    thn (ha.run pos pins s0 σ H0 _ I0 q0) fun us s1 ⟨vs, H1, I1, r1, hb, q1⟩ => ⟨met_P I1 hb, wpAny_call (PySem.W.method_call (met_P I1 hb).1 (run_fnR (us := Value.ref a :: us) (vs := V.ref a :: vs) F hr hx I1 (.cons rfl r1) q1))⟩
  rw [he] at z ⊢
  exact PySem.W.callWith_of (P := PySem.W.MethP X.K q g (.ref a)) (by show ((false || (backTo pos (starEach es X.env)).any (·.1)) || false) = false; rw [hpl]; rfl) (PySem.W.keeps_M fi) (PySem.Calls.evalArgs_plain z)
end
end TH
set_option maxRecDepth 100000
set_option maxHeartbeats 4000000
namespace TH
open PySem L2 Evl
abbrev sLReader : Stmt := top 999999
abbrev sLLed : Stmt := top 999999
/-! ### plain readers -/
structure Pl where
  moods : Nat
  tables : List (List Nat)
  liked : List Nat
def plD (R : Pl) : PyData := .tuple [.int (R.moods : Int), .list (R.tables.map intsD), intsD R.liked]
structure Wf (S : List Sg) (R : Pl) : Prop where
  m1 : 1 ≤ R.moods
  len : R.tables.length = S.length
  tab : ∀ (s : Nat) (tb : List Nat), R.tables[s]? = some tb → tb.length = R.moods ^ ks S s ∧ ∀ m ∈ tb, m < R.moods
  lik : R.liked.Pairwise (· < ·)
  likm : ∀ m ∈ R.liked, m < R.moods
structure GoodR (S : List Sg) (R : Pl) : Prop extends Wf S R where
  m6 : R.moods ≤ 40
def spotN (m : Nat) (k : List Nat) : Nat := k.foldl (fun a x => a * m + x) 0
def ledN (R : Pl) (s : Nat) (k : List Nat) : Nat := (R.tables.getD s []).getD (spotN R.moods k) 0
theorem fold_lt {m : Nat} : ∀ (k : List Nat) (a j : Nat), a < m ^ j → (∀ x ∈ k, x < m) → k.foldl (fun a x => a * m + x) a < m ^ (j + k.length)
  | [], a, j, h, _ => h
  | x :: k, a, j, h, hx => by
    have h1 := hx x List.mem_cons_self
    have h2 : a * m + x < m ^ (j + 1) := by
      rw [Nat.pow_succ]
      calc a * m + x < a * m + m := by omega
        _ = (a + 1) * m := by rw [Nat.succ_mul]
        _ ≤ m ^ j * m := Nat.mul_le_mul_right m h
    have := fold_lt k (a * m + x) (j + 1) h2 fun y hy => hx y (List.mem_cons_of_mem _ hy)
    rw [List.length_cons, show j + (k.length + 1) = j + 1 + k.length by omega]
    exact this
theorem spotN_lt {m : Nat} {k : List Nat} (hk : ∀ x ∈ k, x < m) : spotN m k < m ^ k.length := by
  have := fold_lt k 0 0 (by rw [Nat.pow_zero]; exact Nat.one_pos) hk
  rw [Nat.zero_add] at this
  exact this
theorem Wf.led {S : List Sg} {R : Pl} (h : Wf S R) {s : Nat} {k : List Nat} (hs : s < S.length) (hk : k.length = ks S s) (hm : ∀ x ∈ k, x < R.moods) : ∃ tb, R.tables[s]? = some tb ∧ tb[spotN R.moods k]? = some (ledN R s k) ∧ ledN R s k < R.moods := by
  have hs' : s < R.tables.length := by rw [h.len]; exact hs
  have ht : R.tables[s]? = some (R.tables[s]'hs') := List.getElem?_eq_getElem _
  obtain ⟨h1, h2⟩ := h.tab s _ ht
  have h3 := spotN_lt hm
  rw [hk, ← h1] at h3
  have h4 : (R.tables[s]'hs')[spotN R.moods k]? = some ((R.tables[s]'hs')[spotN R.moods k]'h3) := List.getElem?_eq_getElem _
  have e : ledN R s k = (R.tables[s]'hs')[spotN R.moods k]'h3 := by
    unfold ledN
    have e1 : R.tables.getD s [] = R.tables[s]'hs' := by
      rw [List.getD_eq_getElem?_getD, ht]
      rfl
    rw [e1, List.getD_eq_getElem?_getD, h4]
    rfl
  refine ⟨_, ht, by rw [e]; exact h4, ?_⟩
  rw [e]
  exact h2 _ (List.mem_of_getElem? h4)
def moodT (R : Pl) : Tr → Nat
  | .n0 s => ledN R s []
  | .n1 s t => ledN R s [moodT R t]
  | .n2 s t u => ledN R s [moodT R t, moodT R u]
theorem moodT_eq (R : Pl) (t : Tr) : moodT R t = ledN R t.root (t.kids.map (moodT R)) := by
  cases t <;> rfl
theorem Wf.mood {S : List Sg} {R : Pl} (h : Wf S R) : ∀ t : Tr, OkT S t → moodT R t < R.moods := by
  intro t
  induction t with
  | n0 s =>
    intro ho
    obtain ⟨_, _, _, hl⟩ := h.led (s := s) (k := []) ho.1 ho.2.symm (fun x hx => nomatch hx)
    exact hl
  | n1 s t ih =>
    intro ho
    obtain ⟨_, _, _, hl⟩ := h.led (s := s) (k := [moodT R t]) ho.1 ho.2.1.symm (fun x hx => by rw [List.mem_singleton.mp hx]; exact ih ho.2.2)
    exact hl
  | n2 s t u ih1 ih2 =>
    intro ho
    obtain ⟨_, _, _, hl⟩ := h.led (s := s) (k := [moodT R t, moodT R u]) ho.1 ho.2.1.symm (fun x hx => by
      rcases List.mem_cons.mp hx with rfl | hx
      · exact ih1 ho.2.2.1
      · rw [List.mem_singleton.mp hx]
        exact ih2 ho.2.2.2)
    exact hl
/-! ### comprehensions by what is made so far -/
section
variable {K : PySem.W.Frag} {M M' : Addr → Prop} {H H1 H' : Hp} {σ : L2.St} {ta tb te tl : TE} {tt : TT} {g : TG} {vs : List Nat} {D : Ends} {tz tu : TS}
/-- what a turn gives: perhaps an item more -/
def TurnI (K : PySem.W.Frag) (M : Addr → Prop) (σ : L2.St) (vs : List Nat) (tt : TT) (te : TE) (I : List PyData → Prop) (es : List PyData) (σ2 : L2.St) (H2 : Hp) : Prop :=
  wipe σ2 vs = wipe σ vs ∧ ∀ H3, Ex H2 H3 → ∀ Q : Bool → Hp → Prop, (∀ b H4, Ex H3 H4 → (b = true → EvP K M te σ2 H4 (fun e => I (es ++ [e]))) → (b = false → I es) → Q b H4) → tt σ2 H3 Q
theorem lc_dataI {n : Nat} {J : It} {G : Hp → Prop} {Y : Nat → Hp → V → Hp → Prop} (w : Walk J n G Y) {A : Addr} {Qd : Hp → Prop} (ok : Ok M H1) (hD : H1 A = none) (hn : n < sizeLine)
    (I : Nat → List PyData → Prop) (h0 : I 0 []) (hG : ∀ H, Ex H1 H → G H)
    (hs : ∀ (M' : Addr → Prop) (i : Nat) (es : List PyData) (x : V) (H H' : Hp), (∀ v d, Dt K M H1 v d → Dt K M' H1 v d) → Ok M' H → i < n → I i es → Ex H1 H → Y i H x H' →
      ∀ Qg : L2.St → Hp → Prop, (∀ σ2 H2, Ex H H2 → TurnI K M' σ vs tt te (I (i + 1)) es σ2 H2 → Qg σ2 H2) → g x (wipe σ vs) H' Qg)
    (q : ∀ H es, Ex H1 H → Dt K M H (.ref A) (.list es) → I n es → Qd H) :
    ∃ W : Nat → Nat → Hp → Prop, (∃ m, W 0 m (upd H1 A (.lst []))) ∧ ∀ i m H, W i m H →
      (J.stop i H ∧ Qd H) ∨ (J.go i H ∧ ∃ Nx : Hp → Prop, (∀ H', Nx H' → ∃ m', m' < m ∧ W (i + 1) m' H') ∧ ∀ x H', J.yld i H x H' → g x (wipe σ vs) H' fun σ2 H2 => wipe σ2 vs = wipe σ vs ∧ tt σ2 H2 fun b H3 =>
        if b = true then te σ2 H3 fun y H4 => ∃ acc, H4 A = some (.lst acc) ∧ acc.length < sizeLine ∧ Nx (upd H4 A (.lst (acc ++ [y]))) else Nx H3) := by
  have ok' : ∀ {H}, Ex H1 H → H A ≠ none → Ok (TH.more M A) H := fun {H} e n l m => by
    rcases m with m | rfl
    · exact (ok.ex e) l m
    · exact n
  refine lc_it w (fun i H => Ex H1 H ∧ ∃ acc es, H A = some (.lst acc) ∧ Dts K (TH.more M A) H acc es ∧ I i es ∧ es.length ≤ i)
    ⟨Ex.new hD, [], [], upd_same, .nil, h0, Nat.le_refl _⟩ (fun i H _ p => hG H p.1) (fun i x H H' hi p y => ?_) (fun H p => ?_)
  · obtain ⟨e, acc, es, hacc, dacc, pI, pl⟩ := p
    refine hs (TH.more M A) i es x H H' (fun v d h => h.more hD) (ok' e (by rw [hacc]; simp)) hi pI e y _ fun σ2 H2 e2 T => ?_
    obtain ⟨hw, ht⟩ := T
    refine ⟨hw, ht H2 (Ex.refl _) _ fun b H3 e3 hb1 hb2 => ?_⟩
    have e03 := e2.trans e3
    have lacc : acc.length ≤ i := by
      rw [dacc.length]
      exact pl
    cases b with
    | true =>
      refine iteT (hb1 rfl H3 (Ex.refl _) _ fun y d H4 e4 dy py => ?_)
      refine ⟨acc, e4 _ _ (e03 _ _ hacc), Nat.lt_of_le_of_lt lacc (Nat.lt_trans hi hn), ?_, acc ++ [y], es ++ [d], upd_same, ?_, py, ?_⟩
      · exact Ex.mut ((e.trans e03).trans e4) hD
      · exact (((dacc.ex (e03.trans e4))).append (.one dy)).upd (e4 _ _ (e03 _ _ hacc)) (.inr rfl)
      · rw [List.length_append]
        show es.length + 1 ≤ _
        omega
    | false => exact iteF ⟨e.trans e03, acc, es, e03 _ _ hacc, dacc.ex e03, hb2 rfl, by omega⟩
  · obtain ⟨e, acc, es, hacc, dacc, pI, pl⟩ := p
    exact q H es e (.lst hacc (ok.new hD) (dacc.weak more_sub)) pI
/-- what gives a new list -/
def EvNew (K : PySem.W.Frag) (M : Addr → Prop) (te : TE) (σ : L2.St) (H : Hp) (P : List PyData → Prop) : Prop :=
  ∀ H1, Ex H H1 → ∀ Q : VK, (∀ l xs ds H2, H1 l = none → Ex H1 H2 → H2 l = some (.lst xs) → Dts K M H2 xs ds → P ds → Q (.ref l) H2) → te σ H1 Q
theorem EvNew.mono {P P' : List PyData → Prop} (h : EvNew K M te σ H P) (k : ∀ ds, P ds → P' ds) : EvNew K M te σ H P' := fun H1 e Q q => h H1 e Q fun l xs ds H2 h1 h2 h3 h4 h5 => q l xs ds H2 h1 h2 h3 h4 (k _ h5)
theorem EvNew.data {P : List PyData → Prop} (ok : Ok M H) (h : EvNew K M te σ H P) : EvP K M te σ H (fun d => ∃ ds, d = .list ds ∧ P ds) := fun H1 e Q q => h H1 e Q fun l xs ds H2 h1 h2 h3 h4 h5 => q _ _ H2 h2 (.lst h3 ((ok.ex e).new h1) h4) ⟨ds, rfl, h5⟩
/-- [.. for i in range(n) ..] by what is made so far -/
theorem evn_lcRI {ta : TA} {n : Nat} (I : Nat → List PyData → Prop) (ok : Ok M H) (hl : EvDA K M ta σ H [.int (n : Int)]) (hz : n ≤ 100000) (h0 : I 0 [])
    (hs : ∀ (M' : Addr → Prop) (i : Nat) (es : List PyData) (H' : Hp), (∀ v d, Dt K M H v d → Dt K M' H' v d) → Ok M' H' → i < n → I i es → Ex H H' →
      ∀ Qg : L2.St → Hp → Prop, (∀ σ2 H2, Ex H' H2 → TurnI K M' σ vs tt te (I (i + 1)) es σ2 H2 → Qg σ2 H2) → g (.int (i : Int)) (wipe σ vs) H' Qg) :
    EvNew K M (tLc (iRng1 ta) g tt te vs) σ H (I n) := fun H0 e Q q =>
  hl H0 e _ fun us ds H1 e1 dv pd => by
    subst pd
    cases dv with
    | cons h1 h2 =>
      cases h1
      cases h2
      refine ⟨(n : Int), rfl, by omega, by omega, fun A hA => ?_⟩
      have hw : Walk (Itr 0 ((n : Int).toNat)) n (fun _ => True) (YFn fun i => .int (0 + i)) := by
        rw [Int.toNat_natCast]
        exact walk_range
      refine lc_dataI (K := K) (σ := σ) (vs := vs) hw (ok.ex (e.trans e1)) hA (Nat.lt_of_le_of_lt hz (by decide)) I h0 (fun H e => trivial) (fun M' i es x H2 H' hm ok' hi hI e2 y Qg qg => ?_) (fun H2 es e2 dd hI => ?_)
      · obtain ⟨rfl, rfl⟩ := y
        show g (V.int (0 + (i : Int))) (wipe σ vs) _ Qg
        rw [Int.zero_add]
        exact hs M' i es _ (fun v d h => (hm v d (h.ex (e.trans e1))).ex e2) ok' hi hI ((e.trans e1).trans e2) Qg qg
      · cases dd with
        | lst w1 w2 w3 => exact q A _ es H2 (fresh_back e1 hA) (e1.trans e2) w1 w3 hI
theorem q_asgN {i : Nat} {P : List PyData → Prop} (h : EvNew K M te σ H P) (k : ∀ l xs ds H1, H l = none → Ex H H1 → H1 l = some (.lst xs) → Dts K M H1 xs ds → P ds → tz D (σ.set i (some (.ref l))) H1) : tSeq (tAsg te (gName i)) tz D σ H := h H (Ex.refl H) _ k
end
theorem dts_intsN {K : PySem.W.Frag} {M : Addr → Prop} {H : Hp} {r : List Nat} {xs : List V} (h : Dts K M H xs ((ofN r).map PyData.int)) : xs = nums r := by
  have := Dts.ints _ h
  rw [this]
  unfold nums ofN
  rw [List.map_map]
  rfl
end TH
set_option maxRecDepth 100000
set_option maxHeartbeats 4000000
namespace TH
open PySem L2 Evl
def b2i (b : Bool) : Int := if b = true then 1 else 0
section
variable {K : PySem.W.Frag} {M M' : Addr → Prop} {H H1 H' : Hp} {σ : L2.St} {ta tb te tc tl : TE} {tt : TT} {g : TG} {vs : List Nat} {tr : TA} {D : Ends} {tz tu : TS}
theorem filter_all {α : Type} : ∀ l : List α, l.filter (fun _ => true) = l
  | [] => rfl
  | a :: l => by rw [List.filter_cons_of_pos rfl, filter_all l]
theorem evd_intB {b : Bool} (h : EvD K M te σ H (.bool b)) : EvD K M (tCB (fun xs H Q => (∃ i, xs = [.int i] ∧ Q (.int i) H) ∨ ∃ k, xs = [.bl k] ∧ Q (.int (if k then 1 else 0)) H) (tCons te tNil)) σ H (.int (b2i b)) := fun H1 e Q q =>
  h H1 e _ fun v d H2 e2 dv pd => by
    subst pd
    cases dv
    refine .inr ⟨b, rfl, ?_⟩
    have : (if b = true then (1 : Int) else 0) = b2i b := rfl
    rw [this]
    exact q _ _ H2 e2 (.int _) rfl
theorem evp_catA {PA PB : PyData → Prop} (ha : EvP K M ta σ H PA) (hb : EvP K M tb σ H PB) (hp : ∀ a b, PA a → PB b → ∃ ds es, a = .tuple ds ∧ b = .tuple es ∧ ds.length + es.length ≤ 100000) :
    EvP K M (tOp (rCatA K) ta tb) σ H (fun d => ∃ ds es, PA (.tuple ds) ∧ PB (.tuple es) ∧ d = .tuple (ds ++ es)) :=
  evp_op ha hb fun x y a b H1 e dx dy px py Q q => by
    obtain ⟨ds, es, rfl, rfl, hs⟩ := hp a b px py
    cases dx with
    | tup h1 h3 =>
      cases dy with
      | tup k1 k3 =>
        refine ⟨_, _, _, _, rfl, rfl, SqT.of h1, SqT.of k1, by rw [h3.length, k3.length]; exact sz_of hs, fun e0 => ?_, fun _ e0 => ?_, fun _ _ p hp => q _ _ _ (Ex.new hp) (.tup upd_same ((h3.append k3).ex (Ex.new hp))) ⟨_, _, px, py, rfl⟩⟩
        · subst e0
          cases h3
          exact q _ _ H1 (Ex.refl _) (.tup k1 k3) ⟨_, _, px, py, rfl⟩
        · subst e0
          cases k3
          exact q _ _ H1 (Ex.refl _) (.tup h1 h3) ⟨_, _, px, py, by rw [List.append_nil]⟩
theorem evn_lcL {ds : List PyData} (f : PyData → Bool) (F : PyData → PyData) (ok : Ok M H) (hl : EvD K M tl σ H (.list ds)) (hz : ds.length < sizeLine)
    (hs : ∀ (M' : Addr → Prop) (d : PyData) (x : V) (H' : Hp), (∀ v d, Dt K M H v d → Dt K M' H' v d) → Ok M' H' → d ∈ ds → Ex H H' → Dt K M' H' x d →
      ∀ Qg : L2.St → Hp → Prop, (∀ σ2 H2, Ex H' H2 → Turned K M' σ vs tt te (f d) (· = F d) σ2 H2 → Qg σ2 H2) → g x (wipe σ vs) H' Qg) :
    EvNew K M (tLc (iList K tl) g tt te vs) σ H (· = (ds.filter f).map F) := fun H0 e Q q =>
  hl H0 e _ fun v d H1 e1 dv pd => by
    subst pd
    cases dv with
    | lst h1 h2 h3 =>
      rename_i a xs
      refine ⟨a, rfl, ⟨xs, sq_of h1⟩, fun D hD => ?_⟩
      have hw : Walk (Itl K a) ds.length (fun H => SqL K H a xs) (YAt xs) := by
        rw [← h3.length]
        exact walk_list
      refine lc_data (K := K) (σ := σ) (vs := vs) ds hw ((ok.ex (e.trans e1))) hD hz f (fun d e => e = F d) (fun H e => sq_of (e _ _ h1)) (fun M' i d x H2 H' hm ok' hd e2 y Qg qg => ?_) (fun H2 es e2 dd pr => ?_)
      · obtain ⟨rfl, hx⟩ := y
        obtain ⟨d', hd', dx⟩ := h3.get hx
        rw [hd] at hd'
        cases hd'
        exact hs M' d x _ (fun v d h => (hm v d (h.ex (e.trans e1))).ex e2) ok' (List.mem_of_getElem? hd) ((e.trans e1).trans e2) ((hm _ _ dx).ex e2) Qg qg
      · cases dd with
        | lst w1 w2 w3 => exact q D _ es H2 (fresh_back e1 hD) (e1.trans e2) w1 w3 (paired_map pr)
theorem op_catAK {X : Cx} (h : X.K = K) : OpR X (binaryOp .Add) (rCatA K) := by
  subst h
  exact op_catA
theorem call_len_seqK {X : Cx} (h : X.K = K) : CallR X (.builtin "len") (fun xs H Q => ∃ p ys, xs = [.ref p] ∧ (SqL K H p ys ∨ SqT K H p ys) ∧ Q (.int ys.length) H) := by
  subst h
  exact call_len_seq
theorem s_retOp {r : R2} {ta tb : TE} {σ : L2.St} {H : Hp} {D : Ends} (h : ta σ H fun x H1 => tb σ H1 fun y H2 => r x y H2 D.rt) : tRet (tOp r ta tb) D σ H := h
theorem s_forR2 {K : PySem.W.Frag} {M : Addr → Prop} {σ : L2.St} {H : Hp} {D : Ends} {tu : TS} {ta : TA} {j : Nat} {lo hi : Int} (h : EvDA K M ta σ H [.int lo, .int hi]) (h1 : -100000 ≤ lo ∧ lo ≤ 100000 ∧ -100000 ≤ hi ∧ hi ≤ 100000) (Pv : Nat → L2.St → Hp → Prop) (h0 : ∀ H1, Ex H H1 → Pv 0 σ H1)
    (hs : ∀ (i : Nat) σ' H', i < (hi - lo).toNat → Pv i σ' H' → tu { D with nx := Pv (i + 1), ct := Pv (i + 1), bk := D.nx } (σ'.set j (some (.int (lo + i)))) H') (hd : ∀ σ' H', Pv (hi - lo).toNat σ' H' → D.nx σ' H') : tFor (iRng2 ta) (gName j) tu D σ H :=
  h.use fun vs ds H1 e1 dv pd => by
    subst pd
    cases dv with
    | cons d1 d2 =>
    cases d2 with
    | cons d2 d3 =>
    cases d3
    cases d1
    cases d2
    exact ⟨lo, hi, rfl, ⟨by omega, by omega, by omega, by omega⟩, for_range Pv (h0 H1 e1) (fun i σ' H' hi p => hs i σ' H' hi p) hd⟩
theorem q_forR2 {K : PySem.W.Frag} {M : Addr → Prop} {σ : L2.St} {H : Hp} {D : Ends} {tu tz : TS} {ta : TA} {j : Nat} {lo hi : Int} (h : EvDA K M ta σ H [.int lo, .int hi]) (h1 : -100000 ≤ lo ∧ lo ≤ 100000 ∧ -100000 ≤ hi ∧ hi ≤ 100000) (Pv : Nat → L2.St → Hp → Prop) (h0 : ∀ H1, Ex H H1 → Pv 0 σ H1)
    (hs : ∀ (i : Nat) σ' H', i < (hi - lo).toNat → Pv i σ' H' → tu { D with nx := Pv (i + 1), ct := Pv (i + 1), bk := tz D } (σ'.set j (some (.int (lo + i)))) H') (hd : ∀ σ' H', Pv (hi - lo).toNat σ' H' → tz D σ' H') : tSeq (tFor (iRng2 ta) (gName j) tu) tz D σ H :=
  s_forR2 (D := { D with nx := tz D }) h h1 Pv h0 hs hd
theorem evd_sum {r : List Int} (h : EvD K M te σ H (.list (r.map PyData.int))) : EvD K M (tCB (rSum K) (tCons te tNil)) σ H (.int r.sum) := fun H1 e Q q =>
  h H1 e _ fun v d H2 e2 dv pd => by
    subst pd
    cases dv with
    | lst h1 h2 h3 =>
      have ew := Dts.ints r h3
      subst ew
      exact ⟨_, r, rfl, sq_of h1, q _ _ H2 e2 (.int _) rfl⟩
theorem q_forR2b {ta : TA} {j : Nat} {lo hi : Int} (h : EvDA K M ta σ H [.int lo, .int hi]) (h1 : -100000 ≤ lo ∧ lo ≤ 100000 ∧ -100000 ≤ hi ∧ hi ≤ 100000) (Pv : Nat → L2.St → Hp → Prop) (Fin : L2.St → Hp → Prop) (h0 : ∀ H1, Ex H H1 → Pv 0 σ H1)
    (hs : ∀ (i : Nat) σ' H', i < (hi - lo).toNat → Pv i σ' H' → ∀ T : L2.St → Hp → Prop, (∀ σ2 H2, Fin σ2 H2 → T σ2 H2) → tu { D with nx := Pv (i + 1), ct := Pv (i + 1), bk := T } (σ'.set j (some (.int (lo + i)))) H')
    (hd : ∀ σ' H', Pv (hi - lo).toNat σ' H' → Fin σ' H') (hf : ∀ σ' H', Fin σ' H' → tz D σ' H') : tSeq (tFor (iRng2 ta) (gName j) tu) tz D σ H :=
  q_forR2 h h1 Pv h0 (fun i σ' H' hi p => hs i σ' H' hi p (tz D) hf) fun σ' H' p => hf σ' H' (hd σ' H' p)
/-- a comprehension over a list whose data are told by something -/
theorem evn_lcM {β : Type} {bs : List β} (enc F : β → PyData) (ok : Ok M H) (hl : EvD K M tl σ H (.list (bs.map enc))) (hz : bs.length < sizeLine)
    (hs : ∀ (M' : Addr → Prop) (b : β) (x : V) (H' : Hp), (∀ v d, Dt K M H v d → Dt K M' H' v d) → Ok M' H' → b ∈ bs → Ex H H' → Dt K M' H' x (enc b) →
      ∀ Qg : L2.St → Hp → Prop, (∀ σ2 H2, Ex H' H2 → Turned K M' σ vs tt te true (· = F b) σ2 H2 → Qg σ2 H2) → g x (wipe σ vs) H' Qg) :
    EvNew K M (tLc (iList K tl) g tt te vs) σ H (· = bs.map F) := fun H0 e Q q =>
  hl H0 e _ fun v d H1 e1 dv pd => by
    subst pd
    cases dv with
    | lst h1 h2 h3 =>
      rename_i a xs
      refine ⟨a, rfl, ⟨xs, sq_of h1⟩, fun D hD => ?_⟩
      have hw : Walk (Itl K a) bs.length (fun H => SqL K H a xs) (YAt xs) := by
        have := h3.length
        rw [List.length_map] at this
        rw [← this]
        exact walk_list
      refine lc_data (K := K) (σ := σ) (vs := vs) bs hw ((ok.ex (e.trans e1))) hD hz (fun _ => true) (fun b e => e = F b) (fun H e => sq_of (e _ _ h1)) (fun M' i b x H2 H' hm ok' hb e2 y Qg qg => ?_) (fun H2 es e2 dd pr => ?_)
      · obtain ⟨rfl, hx⟩ := y
        obtain ⟨d', hd', dx⟩ := h3.get hx
        rw [List.getElem?_map, hb] at hd'
        cases hd'
        exact hs M' b x _ (fun v d h => (hm v d (h.ex (e.trans e1))).ex e2) ok' (List.mem_of_getElem? hb) ((e.trans e1).trans e2) ((hm _ _ dx).ex e2) Qg qg
      · cases dd with
        | lst w1 w2 w3 => exact q D _ es H2 (fresh_back e1 hD) (e1.trans e2) w1 w3 (by rw [paired_map pr, filter_all])
theorem evn_lcMP {β : Type} {PB : List β → Prop} (enc F : β → PyData) (ok : Ok M H) (hl : EvP K M tl σ H (fun d => ∃ bs : List β, d = .list (bs.map enc) ∧ PB bs)) (hz : ∀ bs, PB bs → bs.length < sizeLine)
    (hs : ∀ (M' : Addr → Prop) (bs : List β) (b : β) (x : V) (H' : Hp), (∀ v d, Dt K M H v d → Dt K M' H' v d) → Ok M' H' → PB bs → b ∈ bs → Ex H H' → Dt K M' H' x (enc b) →
      ∀ Qg : L2.St → Hp → Prop, (∀ σ2 H2, Ex H' H2 → Turned K M' σ vs tt te true (· = F b) σ2 H2 → Qg σ2 H2) → g x (wipe σ vs) H' Qg) :
    EvNew K M (tLc (iList K tl) g tt te vs) σ H (fun ds => ∃ bs : List β, ds = bs.map F ∧ PB bs) := fun H0 e Q q =>
  hl H0 e _ fun v d H1 e1 dv pd => by
    obtain ⟨bs, rfl, pb⟩ := pd
    cases dv with
    | lst h1 h2 h3 =>
      rename_i a xs
      refine ⟨a, rfl, ⟨xs, sq_of h1⟩, fun D hD => ?_⟩
      have hw : Walk (Itl K a) bs.length (fun H => SqL K H a xs) (YAt xs) := by
        have := h3.length
        rw [List.length_map] at this
        rw [← this]
        exact walk_list
      refine lc_data (K := K) (σ := σ) (vs := vs) bs hw ((ok.ex (e.trans e1))) hD (hz bs pb) (fun _ => true) (fun b e => e = F b) (fun H e => sq_of (e _ _ h1)) (fun M' i b x H2 H' hm ok' hb e2 y Qg qg => ?_) (fun H2 es e2 dd pr => ?_)
      · obtain ⟨rfl, hx⟩ := y
        obtain ⟨d', hd', dx⟩ := h3.get hx
        rw [List.getElem?_map, hb] at hd'
        cases hd'
        exact hs M' bs b x _ (fun v d h => (hm v d (h.ex (e.trans e1))).ex e2) ok' pb (List.mem_of_getElem? hb) ((e.trans e1).trans e2) ((hm _ _ dx).ex e2) Qg qg
      · cases dd with
        | lst w1 w2 w3 => exact q D _ es H2 (fresh_back e1 hD) (e1.trans e2) w1 w3 ⟨bs, by rw [paired_map pr, filter_all], pb⟩
theorem EvNew.dataP {β : Type} {PB : List β → Prop} {enc : β → PyData} (ok : Ok M H) (h : EvNew K M te σ H (fun ds => ∃ bs : List β, ds = bs.map enc ∧ PB bs)) : EvP K M te σ H (fun d => ∃ bs : List β, d = .list (bs.map enc) ∧ PB bs) :=
  (h.data ok).mono fun d ⟨ds, h1, bs, h2, h3⟩ => ⟨bs, by rw [h1, h2], h3⟩
end
end TH
set_option maxRecDepth 100000
set_option maxHeartbeats 4000000
namespace TH
open PySem L2 Evl
abbrev sLRow : Stmt := top 33
/-! ### a tree is drawn -/
def spLRow (K : PySem.W.Frag) : Sp := fun vs H Q _ => ∃ (M : Addr → Prop) (b : Addr) (v : V) (S : List Sg) (m : Nat), vs = [.ref b, v, .int (m : Int)] ∧ Ok M H ∧ H b = some (Box b) ∧ Dt K M H v (.list (S.map sgD)) ∧ Good S ∧ 1 ≤ m ∧ m ≤ 1000 ∧
  ∀ (u : V) (t : Tr) (H' : Hp), Ex H H' → OkT S t → t.size ≤ m → Dt K MF H' u (rowD t) → Q u H'
structure GlobU (mg : Str → Option Value) : Prop where
  tuple : mg "tuple" = none
section
variable {P : Program} {w : World} {K : PySem.W.Frag} {mg : Str → Option Value} {base : Heap} {C : Addr}
abbrev nLRow : List Str := ["_law_box_here", "_law_signs_here", "_law_most", "_law_row_here", "_law_wanted", "_law_room", "_law_some", "_law_sign"]
theorem scLRow : FnScope nLRow ["_law_box_here", "_law_signs_here", "_law_most"] (defScope sLRow) := ⟨rfl, rfl, rfl, by decide +kernel, rfl, by decide +kernel, by decide +kernel⟩
theorem ok_lrow {f fT : Addr} {fd fdT : FuncData} (F : Fun K "_law_row" "_law_row" sLRow f fd) (G : Glob mg) (GU : GlobU mg)
    (GT : FnOk P w K mg base CX0 2 fT fdT ["_law_box_here", "_law_count"] spTake) (FT : PySem.W.keepIn K (.ref fT) = true) (mT : mg "_law_take" = some (.ref fT)) (bT : Binds K fdT ["_law_box_here", "_law_count"] []) :
    FnOk P w K mg base CX0 3 f fd ["_law_box_here", "_law_signs_here", "_law_most"] (spLRow K) := by
  refine F.ok scLRow (fun vs H Q E h => ?_) (fun cdv A outer s H vs Q E hr h => ?_)
  · obtain ⟨M, b, v, S, m, rfl, _⟩ := h
    rfl
  · obtain ⟨M, b, v, S, m, rfl, ok, hb, hv, gS, m1, m2, q⟩ := h
    have hu := hu64 hr
    refine ⟨_, pss_cons (ps_par (by rfl) scLRow.nd (i := 3) (j := 4) rfl rfl (by decide) rfl rfl (pa_cons (pe_lst pa_nil) (pa_cons pe_int pa_nil)) (by rfl))
      (pss_cons (ps_while PassesOwn.never (pt_cmpR op_gt (pv 4) pe_int (nomark _))
        (pss_cons (ps_set (i := 5) scLRow.nd rfl (.inr rfl) (pe_op op_sub (pe_op op_sub (pv 2) (pe_callB call_len_seq (by rfl) G.len PySem.boot_len (pa_cons (pv 3) pa_nil))) (pv 4)))
        (pss_cons (ps_setLc (i := 6) (own := [("_law_sign", 7)]) (g := gName 7) (by rfl) scLRow.nd rfl rfl (sw_true rfl rfl rfl (by decide +kernel)) (pi_range1 rfl G.range (pa_cons (pe_callB call_len_seq (by rfl) G.len PySem.boot_len (pa_cons (pv 1) pa_nil)) pa_nil))
            (blkOk_by (N := nLRow) (sc := defScope sLRow) (by decide +kernel)) (fun _ _ _ _ _ => pg_name (i := 7) scLRow.nd rfl (.inl rfl))
            (fun _ _ _ _ _ => pts_one (pt_chain op_lt op_le pe_int (pe_ix (ix_tupK (K := K) rfl) (pe_ix (ix_listK (K := K) rfl) (pv 1) (pv 7) (fun _ _ => rfl)) pe_int (fun _ _ => rfl)) (pv 5))) (fun _ _ _ _ _ => pv 7))
        (pss_cut (ps_if (PW.pt (pw_or (pt_cmpR (op_eqD hu) (pv 6) (pe_lst pa_nil) (nomark _)) (pw_or1 (pt_cmpR op_eq (pe_call GT hr rfl mT FT bT .nil pass0 (pa_cons (pv 0) (pa_cons pe_int pa_nil))) pe_int (nomark _)))))
          (pss_one (ps_setLc (i := 6) (own := [("_law_sign", 7)]) (g := gName 7) (by rfl) scLRow.nd rfl rfl (sw_true rfl rfl rfl (by decide +kernel)) (pi_range1 rfl G.range (pa_cons (pe_callB call_len_seq (by rfl) G.len PySem.boot_len (pa_cons (pv 1) pa_nil)) pa_nil))
            (blkOk_by (N := nLRow) (sc := defScope sLRow) (by decide +kernel)) (fun _ _ _ _ _ => pg_name (i := 7) scLRow.nd rfl (.inl rfl))
            (fun _ _ _ _ _ => pts_one (pt_cmpR op_eq (pe_ix (ix_tupK (K := K) rfl) (pe_ix (ix_listK (K := K) rfl) (pv 1) (pv 7) (fun _ _ => rfl)) pe_int (fun _ _ => rfl)) pe_int (nomark _))) (fun _ _ _ _ _ => pv 7))) pss_nil)
        (pss_cons (ps_set (i := 7) scLRow.nd rfl (.inl rfl) (pe_ix ix_list (pv 6) (pe_call GT hr rfl mT FT bT .nil pass0 (pa_cons (pv 0) (pa_cons (pe_callB call_len_seq (by rfl) G.len PySem.boot_len (pa_cons (pv 6) pa_nil)) pa_nil))) (fun _ _ => rfl)))
        (pss_cons (ps_expr (pe_bm PySem.F.plainAttrs_list PySem.F.slot_list_append PySem.F.type_list_append mt_append (pv 3) (pa_cons (pv 7) pa_nil)))
        (pss_one (ps_set (i := 4) scLRow.nd rfl (.inl rfl) (pe_op op_add (pe_op op_sub (pv 4) pe_int) (pe_ix ix_tup (pe_ix ix_list (pv 1) (pv 7) (fun _ _ => rfl)) pe_int (fun _ _ => rfl)))))))))))
      (pss_one (ps_ret (pe_callTy call_tuple_of (by rfl) GU.tuple (by decide +kernel) (pa_cons (pv 3) pa_nil))))), ?_⟩
    refine ⟨by decide, fun l hl => ⟨_, _, rfl, ?_⟩⟩
    have e1 : Ex H (upd H l (.lst [])) := Ex.new hl
    have hl1 : (upd H l (.lst [])) l = some (.lst []) := upd_same
    generalize upd H l (.lst []) = H1 at e1 hl1
    have kl := gS.len
    have kn : ∀ {j : Nat} {r : Sg}, S[j]? = some r → 0 ≤ r.2 ∧ r.2 ≤ 2 := fun h => gS.kids _ (List.mem_of_getElem? h)
    refine q_while (fun k σ' H' => Ex H H' ∧ ∃ (r : List Nat) (d : Nat) (u5 u6 u7 : Option V), σ' = [some (.ref b), some v, some (.int (m : Int)), some (.ref l), some (.int (d : Int)), u5, u6, u7] ∧ H' l = some (.lst (nums r)) ∧ Tr.run S.length (ks S) 1 r = some d ∧ r.length + d ≤ m ∧ k = m - r.length)
      m ⟨e1, [], 1, none, none, none, rfl, hl1, rfl, m1, rfl⟩ ?_
    rintro k σ' H2 ⟨e2, r, d, u5, u6, u7, rfl, hl2, hrun, hm, rfl⟩
    refine ⟨decide (0 < (d : Int)), evt_test (K := K) (M := MF) (evd_cmp (g := fun i j => decide (j < i)) (evd_var rfl (.int (d : Int))) evd_int), fun hd H3 e3 => ?_, fun hd H3 e3 => ?_⟩
    · have hd : 0 < d := by have := of_decide_eq_true hd; omega
      refine ⟨fun σ' H' => Ex H H' ∧ ∃ (r' : List Nat) (d' : Nat) (u5 u6 u7 : Option V), σ' = [some (.ref b), some v, some (.int (m : Int)), some (.ref l), some (.int (d' : Int)), u5, u6, u7] ∧ H' l = some (.lst (nums r')) ∧ Tr.run S.length (ks S) 1 r' = some d' ∧ r'.length + d' ≤ m ∧ r'.length = r.length + 1,
        fun σ2 H4 ⟨e4, r', d', u5, u6, u7, h1, h2, h3, h4, h5⟩ => ⟨m - r'.length, by omega, e4, r', d', u5, u6, u7, h1, h2, h3, h4, rfl⟩, ?_⟩
      have e23 := e2.trans e3
      have hl3 := e3 _ _ hl2
      have lD : ∀ {H'}, Ex H3 H' → Dt K MF H' (.ref l) (intsD r) := fun e => .lst (e _ _ hl3) (fun h => h) (nums_dts _)
      have ev3 : ∀ {H' σ}, σ[3]? = some (some (.ref l)) → Ex H3 H' → EvD K MF (tCB (fun xs H Q => ∃ p ys, xs = [.ref p] ∧ (SqL K H p ys ∨ SqT K H p ys) ∧ Q (.int ys.length) H) (tCons (tVar 3) tNil)) σ H' (.int (r.length : Int)) := fun {H' σ} hs e => by
        have h := evd_lenL (K := K) (M := MF) (σ := σ) (ta := tCons (tVar 3) tNil) (eva_cons (evd_var (d := intsD r) hs (lD e)) eva_nil)
        rw [List.length_map, ofN_len] at h
        exact h
      have evS : ∀ {M' : Addr → Prop} {H' σ}, σ[1]? = some (some v) → Dt K M' H' v (.list (S.map sgD)) → EvD K M' (tCB (fun xs H Q => ∃ p ys, xs = [.ref p] ∧ (SqL K H p ys ∨ SqT K H p ys) ∧ Q (.int ys.length) H) (tCons (tVar 1) tNil)) σ H' (.int (S.length : Int)) := fun {M' H' σ} hs hv => by
        have h := evd_lenL (K := K) (M := M') (σ := σ) (ta := tCons (tVar 1) tNil) (eva_cons (evd_var (d := .list (S.map sgD)) hs hv) eva_nil)
        rw [List.length_map] at h
        exact h
      -- room
      refine q_asgP (K := K) (M := MF) (evd_sub (evd_sub (evd_var rfl (.int (m : Int))) (ev3 rfl (Ex.refl _))) (evd_var rfl (.int (d : Int)))) fun vr dr H4 e4 dvr pr => ?_
      subst pr
      cases dvr
      have hv4 : Dt K M H4 v (.list (S.map sgD)) := hv.ex (e23.trans e4)
      have ok4 := ok.ex (e23.trans e4)
      -- the signs for which there is room
      have key : ∀ (f : Nat → Bool) (tt : TT) (H4 : Hp) (u6 u7 : Option V), Ok M H4 → Dt K M H4 v (.list (S.map sgD)) →
          (∀ (M' : Addr → Prop) (i : Nat) (H' : Hp), Dt K M' H' v (.list (S.map sgD)) → (i : Int) < (S.length : Int) → ∀ σ2 : L2.St, σ2[1]? = some (some v) → σ2[5]? = some (some (.int ((m : Int) - r.length - d))) → σ2[7]? = some (some (.int (i : Int))) → EvT tt σ2 H' (f i)) →
          EvD K M (tLc (iRng1 (tCons (tCB (fun xs H Q => ∃ p ys, xs = [.ref p] ∧ (SqL K H p ys ∨ SqT K H p ys) ∧ Q (.int ys.length) H) (tCons (tVar 1) tNil)) tNil)) (gName 7) tt (tVar 7) [7])
            [some (.ref b), some v, some (.int (m : Int)), some (.ref l), some (.int (d : Int)), some (.int ((m : Int) - r.length - d)), u6, u7] H4 (intsD ((List.range S.length).filter f)) := by
        intro f tt H4 u6 u7 ok4 hv4 ht
        refine (evp_lcR (PN := fun n => n = (S.length : Int)) f (fun i e => e = .int (i : Int)) ok4 ((eva_cons (evS rfl hv4) eva_nil).mono fun ds h => ⟨_, h, rfl⟩) (fun n hn => by omega) fun M' n i H' hm ok' pn hi e Qg qg => ?_).mono ?_
        · subst pn
          refine qg _ H' (Ex.refl _) ⟨rfl, ht M' i H' ((hm _ _ hv4)) hi _ rfl rfl rfl, fun _ => evd_var rfl (.int _)⟩
        · rintro dd ⟨n, es, rfl, rfl, pr⟩
          rw [Int.toNat_natCast] at pr
          rw [paired_map pr]
          show _ = PyData.list ((ofN _).map PyData.int)
          unfold ofN
          rw [List.map_map]
          rfl
      have arE : ∀ {M' : Addr → Prop} {i : Nat} {H' : Hp} {σ2 : L2.St}, Dt K M' H' v (.list (S.map sgD)) → (i : Int) < (S.length : Int) → σ2[1]? = some (some v) → σ2[7]? = some (some (.int (i : Int))) →
          EvD K M' (tOp (rIxT K) (tOp (rIxL K) (tVar 1) (tVar 7)) (tC (.int 1))) σ2 H' (.int (ks S i : Int)) := fun {M' i H' σ2} hv hi h1 h7 => by
        have hq : S[i]? = some (S[i]'(by omega)) := List.getElem?_eq_getElem _
        have h := evd_ar (k := 0) (K := K) (M := M') (σ := σ2) (te := tVar 7) h1 hv (evd_var h7 (.int (i : Int))) rfl hq
        have := kn hq
        rw [ks_of hq, Int.toNat_of_nonneg this.1]
        exact h
      refine q_asgP (K := K) (M := M) (key (fun i => decide (0 < ks S i) && decide ((ks S i : Int) ≤ (m : Int) - r.length - d)) _ H4 _ _ ok4 hv4 ?_) fun vs ds H5 e5 dvs pds => ?_
      · intro M' i H' hv hi σ2 h1 h5 h7
        refine et_is (evt_test (K := K) (M := M') (evd_chainI (g := fun i j => decide (i < j)) (g' := fun i j => decide (i ≤ j)) evd_int (arE hv hi h1 h7) (evd_var h5 (.int _)))) ?_
        congr 1
        by_cases h : 0 < ks S i
        · rw [decide_eq_true h, decide_eq_true (by omega)]
        · rw [decide_eq_false h, decide_eq_false (by omega)]
      subst pds
      have e05 := (e23.trans e4).trans e5
      have hv5 := hv4.ex e5
      have ok5 := ok4.ex e5
      have hb5 := e05 _ _ hb
      refine q_cut (M := fun σ' H6 => Ex H5 H6 ∧ ∃ (c : List Nat) (vc : V) (u7 : Option V), σ' = [some (.ref b), some v, some (.int (m : Int)), some (.ref l), some (.int (d : Int)), some (.int ((m : Int) - r.length - d)), some vc, u7] ∧ Dt K M H6 vc (intsD c) ∧ c ≠ [] ∧ c.length ≤ 6 ∧ ∀ j ∈ c, j < S.length ∧ ((ks S j : Int) ≤ (m : Int) - r.length - d ∨ ks S j = 0)) ?_ ?_
      · have memf : ∀ (f : Nat → Bool), ∀ j ∈ (List.range S.length).filter f, j < S.length ∧ f j = true := fun f j hj => by
          obtain ⟨h1, h2⟩ := List.mem_filter.mp hj
          exact ⟨List.mem_range.mp h1, h2⟩
        have lenf : ∀ (f : Nat → Bool), ((List.range S.length).filter f).length ≤ 6 := fun f => by
          have h := List.length_filter_le f (List.range S.length)
          rw [List.length_range] at h
          omega
        refine s_whenP (PB := fun b => b = false → (List.range S.length).filter (fun i => decide (0 < ks S i) && decide ((ks S i : Int) ≤ (m : Int) - r.length - d)) ≠ []) ?_ (fun _ H6 e6 => ?_) (fun hne H6 e6 => ?_)
        · refine (evtp_or (PB := fun _ => True) (evtp_of (evt_test (K := K) (M := M) (evd_eqD (evd_var rfl dvs) (evd_lst (ds := []) ok5 eva_nil) (flat_intsD _) (flat_list (n := 0) fun d hd => nomatch hd)))) fun _ => evtp_test (K := K) (M := M) ?_).mono ?_
          · refine evp_op (evp_take (ev_var rfl) hb5 evd_int (by decide) (by decide)) evd_int fun x y a dd H7 e7 dx dy px py Q q => ?_
            obtain ⟨k, rfl, k0, k1⟩ := px
            subst py
            cases dx
            cases dy
            exact ⟨rfl, q _ _ H7 (Ex.refl _) (.bl _) ⟨_, rfl, trivial⟩⟩
          · rintro b (⟨_, rfl⟩ | ⟨h, _⟩) hb
            · cases hb
            · rw [eqv_nil] at h
              exact of_decide_eq_false h.symm
        · refine s_asgP (K := K) (M := M) (key (fun i => decide (ks S i = 0)) _ H6 _ _ (ok5.ex e6) (hv5.ex e6) ?_) fun vc dc H7 e7 dvc pc => ?_
          · intro M' i H' hv hi σ2 h1 h5 h7
            refine et_is (evt_test (K := K) (M := M') (evd_eqI (arE hv hi h1 h7) evd_int)) ?_
            by_cases h : ks S i = 0
            · rw [decide_eq_true h, decide_eq_true (by omega)]
            · rw [decide_eq_false h, decide_eq_false (by omega)]
          subst pc
          refine ⟨e6.trans e7, _, vc, u7, rfl, dvc, ?_, lenf _, fun j hj => ?_⟩
          · obtain ⟨p, hp, hz⟩ := gS.leaf
            obtain ⟨j, hj⟩ := List.mem_iff_getElem?.mp hp
            intro h
            have : j ∈ (List.range S.length).filter (fun i => decide (ks S i = 0)) := List.mem_filter.mpr ⟨List.mem_range.mpr (List.getElem?_eq_some_iff.mp hj).1, by rw [ks_of hj, hz]; rfl⟩
            rw [h] at this
            cases this
          · obtain ⟨h1, h2⟩ := memf _ j hj
            exact ⟨h1, .inr (of_decide_eq_true h2)⟩
        · refine ⟨e6, _, vs, u7, rfl, dvs.ex e6, hne rfl, lenf _, fun j hj => ?_⟩
          obtain ⟨h1, h2⟩ := memf _ j hj
          rw [Bool.and_eq_true, decide_eq_true_eq, decide_eq_true_eq] at h2
          exact ⟨h1, .inl h2.2⟩
      · rintro σ' H6 ⟨e6, c, vc, u7, rfl, hc, hne, hc6, hfit⟩
        have lenc : 0 < c.length := List.length_pos_iff.mpr hne
        have hb6 := e6 _ _ hb5
        have ev6 : EvD K M (tCB (fun xs H Q => ∃ p ys, xs = [.ref p] ∧ (SqL K H p ys ∨ SqT K H p ys) ∧ Q (.int ys.length) H) (tCons (tVar 6) tNil)) [some (.ref b), some v, some (.int (m : Int)), some (.ref l), some (.int (d : Int)), some (.int ((m : Int) - r.length - d)), some vc, u7] H6 (.int (c.length : Int)) := by
          have h := evd_lenL (K := K) (M := M) (σ := [some (.ref b), some v, some (.int (m : Int)), some (.ref l), some (.int (d : Int)), some (.int ((m : Int) - r.length - d)), some vc, u7]) (ta := tCons (tVar 6) tNil) (eva_cons (evd_var (d := intsD c) rfl hc) eva_nil)
          rw [List.length_map, ofN_len] at h
          exact h
        -- sign = some[take(box, len(some))]
        refine q_asgP (K := K) (M := M) (P := fun dd => ∃ j : Nat, dd = .int (j : Int) ∧ j ∈ c) ?_ fun vj dj H7 e7 dvj pj => ?_
        · refine evp_op (evd_var rfl hc) (evp_take (ev_var rfl) hb6 ev6 (by omega) (Nat.lt_of_le_of_lt (show ((c.length : Nat) : Int).natAbs ≤ 6 by omega) (by decide))) fun x y a dd H7 e7 dx dy px py Q q => ?_
          obtain ⟨k, rfl, k0, k1⟩ := py
          subst px
          cases dy
          cases dx with
          | lst w1 w2 w3 =>
          obtain ⟨n, rfl⟩ := Int.eq_ofNat_of_zero_le k0
          have hn : c[n]? = some (c[n]'(by omega)) := List.getElem?_eq_getElem _
          obtain ⟨vv, hvv, dvv⟩ := w3.at (i := n) (d := .int ((c[n]'(by omega) : Nat) : Int)) (by rw [List.getElem?_map, ofN_at hn]; rfl)
          exact ⟨_, _, _, vv, rfl, rfl, sq_of w1, atI_nat hvv, q vv _ H7 (Ex.refl _) dvv ⟨_, rfl, List.mem_of_getElem? hn⟩⟩
        obtain ⟨j, rfl, hj⟩ := pj
        cases dvj
        obtain ⟨hjS, hjf⟩ := hfit j hj
        have e57 := e6.trans e7
        have hl7 : H7 l = some (.lst (nums r)) := (e57) _ _ (e5 _ _ (e4 _ _ hl3))
        -- row.append(sign)
        refine q_appP (K := K) (M := M) (P := (· = .int (j : Int))) hl7 rfl (evd_var rfl (.int _)) (by rw [nums_len]; exact Nat.lt_of_le_of_lt (show r.length ≤ 1000 by omega) (by decide)) fun va da H8 e8 dva pa => ?_
        subst pa
        cases dva
        have hlH : H l = none := hl
        have e08 : Ex H (upd H8 l (.lst (nums r ++ [V.int (j : Int)]))) := Ex.mut ((e05.trans e57).trans e8) hlH
        have hv8 : Dt K (more M l) H8 v (.list (S.map sgD)) := (hv.more hlH).ex ((e05.trans e57).trans e8)
        have hl8 := e8 _ _ hl7
        have hv9 : Dt K (more M l) (upd H8 l (.lst (nums r ++ [V.int (j : Int)]))) v (.list (S.map sgD)) := hv8.upd hl8 (.inr rfl)
        refine s_asgP (K := K) (M := more M l) (evd_add (evd_sub (evd_var rfl (.int (d : Int))) evd_int) (arE hv9 (by omega) rfl rfl)) fun vw dw H9 e9 dvw pw => ?_
        subst pw
        cases dvw
        have hrun' := Tr.run_snoc hrun hd hjS
        refine ⟨e08.trans e9, r ++ [j], d - 1 + ks S j, some (.int ((m : Int) - r.length - d)), some vc, some (.int (j : Int)), ?_, ?_, hrun', ?_, by rw [List.length_append]; rfl⟩
        · have hc : (d : Int) - 1 + (ks S j : Int) = ((d - 1 + ks S j : Nat) : Int) := by omega
          exact congrArg (fun z => [some (.ref b), some v, some (.int (m : Int)), some (.ref l), some (V.int z), some (.int ((m : Int) - r.length - d)), some vc, some (.int (j : Int))]) hc
        · rw [e9 _ _ upd_same, nums_app]
          rfl
        · rw [List.length_append, List.length_singleton]
          omega
    · have hd : d = 0 := by have := of_decide_eq_false hd; omega
      subst hd
      obtain ⟨t, ht, rfl⟩ := Tr.run_tree (ks_le gS.kidsOk) hrun
      refine ⟨_, rfl, l, _, rfl, .inl ⟨sq_of (e3 _ _ hl2), fun tp htp => ?_⟩⟩
      have hsz : t.size ≤ m := by unfold Tr.size; omega
      exact q (.ref tp) t _ ((e2.trans e3).trans (Ex.new htp)) ht hsz (.tup upd_same ((nums_dts _)))
end
end TH
set_option maxRecDepth 100000
set_option maxHeartbeats 4000000
namespace TH
open PySem L2 Evl LamX
/-! ### what stays where a lambda is made -/
section
variable {K : PySem.W.Frag} {M : Addr → Prop} {H H1 H' : Hp} {C CN p : Addr} {S T : List Sg} {σ : L2.St} {ta : TE} {E : XK} {Q : VK}
theorem extn_sqt {a : Addr} {xs : List V} (e : ExtN H H') (h : SqT K H a xs) : SqT K H' a xs := by
  rcases h with (h | ⟨u, h⟩) | h
  · exact .inl (.inl (e _ _ h fun ps z => by cases z))
  · exact .inl (.inr ⟨u, e _ _ h fun ps z => by cases z⟩)
  · exact .inr h
theorem extn_sql {a : Addr} {xs : List V} (e : ExtN H H') (h : SqL K H a xs) : SqL K H' a xs := by
  rcases h with (h | ⟨u, h⟩) | h
  · exact .inl (.inl (e _ _ h fun ps z => by cases z))
  · exact .inl (.inr ⟨u, e _ _ h fun ps z => by cases z⟩)
  · exact .inr h
theorem dt_extn {v : V} {d : PyData} (h : Dt K M H v d) (e : ExtN H H') : Dt K M H' v d :=
  Dt.move (fun a xs h n => ⟨e _ _ h (fun ps z => by cases z), n⟩) (fun a xs h => e _ _ h (fun ps z => by cases z)) d v h
theorem book_extn (h : BookAt C M H p S) (e : ExtN H H') : BookAt C M H' p S := by
  obtain ⟨dx, l1, l2, h1, h2, h3, h4, h5⟩ := h
  exact ⟨dx, l1, l2, e _ _ h1 (fun ps z => by cases z), e _ _ h2 (fun ps z => by cases z), h3, e _ _ h4 (fun ps z => by cases z), h5⟩
theorem box_extn {b : Addr} (h : H b = some (Box b)) (e : ExtN H H') : H' b = some (Box b) := e _ _ h fun ps z => by
  unfold Box at z
  cases z
theorem ok_extn (h : Ok M H) (hm : ∀ l, M l → ∃ xs, H l = some (.lst xs)) (e : ExtN H H') : Ok M H' := fun l m => by
  obtain ⟨xs, hx⟩ := hm l m
  rw [e _ _ hx (fun ps z => by cases z)]
  simp
/-- Book(..) of a list that is a book, of one that is none -/
theorem made_ex {x dx : Addr} (h1 : H x = none) (h2 : H dx = none) (hne : dx ≠ x) : Ex H (upd (upd H dx (.own x)) x (.ins C dx [])) :=
  (Ex.new h2).trans (Ex.new (by rw [upd_ne hne.symm]; exact h1))
theorem make_book (ok : Ok M H) (h : EvD K M ta σ H (.list (S.map sgD))) (g : validB S = true) (hl : S.length ≤ 100) (hz : ∀ q ∈ S, q.1.length ≤ 100000)
    (q : ∀ x H', Ex H H' → BookAt C M H' x S → Q (.ref x) H') : tMake C (spInit K C CN) [] E (tCons ta tNil) σ H Q := by
  refine h H (Ex.refl H) _ fun v d H1 e1 dv pd x dx hx hdx hne => ?_
  subst pd
  have e2 : Ex H1 (upd (upd H1 dx (.own x)) x (.ins C dx [])) := made_ex hx hdx hne
  refine ⟨M, x, dx, v, S, ok.ex (e1.trans e2), rfl, upd_same, dv.ex e2, hl, hz, fun _ H' hB hk => ⟨rfl, q x H' (e1.trans fun b o hb => ?_) hB⟩, fun g' => by rw [g] at g'; cases g'⟩
  exact hk b o (e2 b o hb) (ne_of_none hb hx)
theorem make_none (ok : Ok M H) (h : EvD K M ta σ H (.list (S.map sgD))) (g : validB S = false) (hl : S.length ≤ 100) (hz : ∀ q ∈ S, q.1.length ≤ 100000)
    (q : ∀ H', Ex H H' → E (.ref CN) none H') : tMake C (spInit K C CN) [] E (tCons ta tNil) σ H Q := by
  refine h H (Ex.refl H) _ fun v d H1 e1 dv pd x dx hx hdx hne => ?_
  subst pd
  have e2 : Ex H1 (upd (upd H1 dx (.own x)) x (.ins C dx [])) := made_ex hx hdx hne
  exact ⟨M, x, dx, v, S, ok.ex (e1.trans e2), rfl, upd_same, dv.ex e2, hl, hz, (fun g' => by rw [g] at g'; cases g'), fun _ H' e3 => q H' ((e1.trans e2).trans e3)⟩
/-! ### two lists that are the same -/
theorem lay_sgs : ∀ S : List Sg, (∀ q ∈ S, PyData.strOk q.1 = true) → PyData.canLayAll0 (S.map sgD) = true
  | [], _ => rfl
  | q :: S, h => by
    rw [List.map_cons, PyData.canLayAll0, lay_sgs S fun r hr => h r (List.mem_cons_of_mem _ hr)]
    have : (sgD q).canLay0 = true := by
      unfold sgD
      rw [PyData.canLay0, PyData.canLayAll0, PyData.canLay0, h q List.mem_cons_self, PyData.canLayAll0, PyData.canLay0, PyData.canLayAll0]
      rfl
    rw [this]
    rfl
theorem depth_sgs : ∀ S : List Sg, PyData.depthAll (S.map sgD) ≤ 1
  | [] => by show 0 ≤ 1; decide
  | q :: S => by
    rw [List.map_cons, PyData.depthAll]
    have h1 := depth_sgs S
    have h2 : (sgD q).depth = 1 := by
      unfold sgD
      rw [PyData.depth, PyData.depthAll, PyData.depth, PyData.depthAll, PyData.depth, PyData.depthAll]
      rfl
    rw [h2]
    exact Nat.max_le.mpr ⟨Nat.le_refl _, h1⟩
theorem shaped_sgs (h : ∀ q ∈ S, PyData.strOk q.1 = true) : SeqAt.shaped (.list (S.map sgD)) = true := by
  unfold SeqAt.shaped
  rw [PyData.canLay0, lay_sgs S h, PyData.depth, decide_eq_true (by have := depth_sgs S; omega)]
  rfl
theorem eqv_sgs (h : ∀ q ∈ S, PyData.strOk q.1 = true) : PyData.eqv (.list (S.map sgD)) (.list (S.map sgD)) = true :=
  SeqAt.eqv_refl _ (by rw [PyData.canLay0]; exact lay_sgs S h)
theorem like_same (S : List Sg) : (decide (S.map (·.1) = S.map (·.1)) && decide (S.map (·.2) = S.map (·.2))) = true := by simp
theorem like_other {S T : List Sg} (h : T ≠ S) : (decide (S.map (·.1) = T.map (·.1)) && decide (S.map (·.2) = T.map (·.2))) = false ∧ (decide (T.map (·.1) = S.map (·.1)) && decide (T.map (·.2) = S.map (·.2))) = false := by
  have key : ¬ (S.map (·.1) = T.map (·.1) ∧ S.map (·.2) = T.map (·.2)) := by
    rintro ⟨h1, h2⟩
    apply h
    have hl : S.length = T.length := by
      have := congrArg List.length h1
      rwa [List.length_map, List.length_map] at this
    refine List.ext_getElem hl.symm fun i hi hi' => ?_
    have a1 : (T.map (·.1))[i]? = (S.map (·.1))[i]? := by rw [h1]
    have a2 : (T.map (·.2))[i]? = (S.map (·.2))[i]? := by rw [h2]
    rw [List.getElem?_map, List.getElem?_map, List.getElem?_eq_getElem hi, List.getElem?_eq_getElem hi'] at a1 a2
    injection a1 with a1
    injection a2 with a2
    exact Prod.ext a1 a2
  constructor
  · rw [← Bool.not_eq_true, Bool.and_eq_true, decide_eq_true_eq, decide_eq_true_eq]
    exact key
  · rw [← Bool.not_eq_true, Bool.and_eq_true, decide_eq_true_eq, decide_eq_true_eq]
    exact fun z => key ⟨z.1.symm, z.2.symm⟩
theorem evd_listOf {ta : TA} {ds : List PyData} (ok : Ok M H) (h : EvDA K M ta σ H [.list ds]) : EvD K M (tCB (fun xs H Q => ∃ p ys, xs = [.ref p] ∧ (SqL K H p ys ∨ SqT K H p ys) ∧ ∀ l, H l = none → Q (.ref l) (upd H l (.lst ys))) ta) σ H (.list ds) :=
  evp_cb h fun vs es H1 e dv pd Q q => by
    subst pd
    cases dv with
    | cons h1 h2 =>
      cases h2
      cases h1 with
      | lst k1 k2 k3 => exact ⟨_, _, rfl, .inl (sq_of k1), fun l hl => q _ _ _ (Ex.new hl) (.lst upd_same ((ok.ex e).new hl) (k3.ex (Ex.new hl))) rfl⟩
theorem q_asgR {te : TE} {i : Nat} {tz : TS} {D : Ends} (h : te σ H fun v H1 => tz D (σ.set i (some v)) H1) : tSeq (tAsg te (gName i)) tz D σ H := h
/-- the book's lists are not the list of signs -/
theorem book_apart {h : Addr} {xs : List V} {y : Addr} (hB : BookAt C MF H p S) (hh : H h = some (.lst xs)) (hy : xs[0]? = some (.ref y)) : BookAt C (· = h) H p S := by
  obtain ⟨dx, l1, l2, h1, h2, _, h4, _⟩ := hB
  refine ⟨dx, l1, l2, h1, h2, fun z => ?_, h4, fun z => ?_⟩
  · rw [z, hh] at h2
    injection h2 with h2
    injection h2 with h2
    rw [h2, List.getElem?_map] at hy
    cases hS : S[0]? with
    | none =>
      rw [hS] at hy
      cases hy
    | some q =>
      rw [hS] at hy
      cases hy
  · rw [z, hh] at h4
    injection h4 with h4
    injection h4 with h4
    rw [h4, List.getElem?_map] at hy
    cases hS : S[0]? with
    | none =>
      rw [hS] at hy
      cases hy
    | some q =>
      rw [hS] at hy
      cases hy
end
end TH
set_option maxRecDepth 100000
set_option maxHeartbeats 4000000
namespace TH
open PySem L2 Evl
theorem nums_of (r : List Nat) : (ofN r).map V.int = nums r := by
  unfold nums ofN
  rw [List.map_map]
  rfl
structure GlobY (mg : Str → Option Value) : Prop where
  list : mg "list" = none
/-- data that are new since H -/
def NewD (K : PySem.W.Frag) (H H' : Hp) (x : V) (d : PyData) : Prop := ∀ M', Ok M' H → Dt K M' H' x d
theorem NewD.ex {K : PySem.W.Frag} {H H' H2 : Hp} {x : V} {d : PyData} (h : NewD K H H' x d) (e : Ex H' H2) : NewD K H H2 x d := fun M' ok => (h M' ok).ex e
theorem row_pre {n : Nat} {ar : Nat → Nat} : ∀ (t u : Tr) (r q : List Nat), Tr.Ok n ar t → Tr.Ok n ar u → t.row ++ r = u.row ++ q → t = u ∧ r = q
  | .n0 s, u, r, q, ht, hu, e => by
    cases u with
    | n0 s' =>
      injection (show s :: r = s' :: q from e) with h1 h2
      exact ⟨by rw [h1], h2⟩
    | n1 s' a =>
      injection (show s :: r = s' :: (a.row ++ q) from e) with h1 h2
      have := ht.2.symm.trans ((congrArg ar h1).trans hu.2.1)
      omega
    | n2 s' a b =>
      injection (show s :: r = s' :: ((a.row ++ b.row) ++ q) from e) with h1 h2
      have := ht.2.symm.trans ((congrArg ar h1).trans hu.2.1)
      omega
  | .n1 s a, u, r, q, ht, hu, e => by
    cases u with
    | n0 s' =>
      injection (show s :: (a.row ++ r) = s' :: q from e) with h1 h2
      have := ht.2.1.symm.trans ((congrArg ar h1).trans hu.2)
      omega
    | n1 s' a' =>
      injection (show s :: (a.row ++ r) = s' :: (a'.row ++ q) from e) with h1 h2
      obtain ⟨h3, h4⟩ := row_pre a a' r q ht.2.2 hu.2.2 h2
      exact ⟨by rw [h1, h3], h4⟩
    | n2 s' a' b =>
      injection (show s :: (a.row ++ r) = s' :: ((a'.row ++ b.row) ++ q) from e) with h1 h2
      have := ht.2.1.symm.trans ((congrArg ar h1).trans hu.2.1)
      omega
  | .n2 s a b, u, r, q, ht, hu, e => by
    cases u with
    | n0 s' =>
      injection (show s :: ((a.row ++ b.row) ++ r) = s' :: q from e) with h1 h2
      have := ht.2.1.symm.trans ((congrArg ar h1).trans hu.2)
      omega
    | n1 s' a' =>
      injection (show s :: ((a.row ++ b.row) ++ r) = s' :: (a'.row ++ q) from e) with h1 h2
      have := ht.2.1.symm.trans ((congrArg ar h1).trans hu.2.1)
      omega
    | n2 s' a' b' =>
      injection (show s :: ((a.row ++ b.row) ++ r) = s' :: ((a'.row ++ b'.row) ++ q) from e) with h1 h2
      rw [List.append_assoc, List.append_assoc] at h2
      obtain ⟨h3, h4⟩ := row_pre a a' _ _ ht.2.2.1 hu.2.2.1 h2
      obtain ⟨h5, h6⟩ := row_pre b b' r q ht.2.2.2 hu.2.2.2 h4
      exact ⟨by rw [h1, h3, h5], h6⟩
theorem row_inj {S : List Sg} {t u : Tr} (ht : OkT S t) (hu : OkT S u) (e : ofN t.row = ofN u.row) : t = u := by
  have e1 : t.row = u.row := by
    have : ∀ r q : List Nat, ofN r = ofN q → r = q := by
      intro r
      induction r with
      | nil => intro q h; cases q with
        | nil => rfl
        | cons a q => cases h
      | cons a r ih => intro q h; cases q with
        | nil => cases h
        | cons b q =>
          injection (show (a : Int) :: ofN r = (b : Int) :: ofN q from h) with h1 h2
          rw [ih q h2, show a = b by omega]
    exact this _ _ e
  exact (row_pre t u [] [] ht hu (by rw [e1])).1
theorem treeB_tree {S : List Sg} (hk : KidsOk S) {ns : List Int} (h : treeB S ns = true) : ∃ t, OkT S t ∧ ns = ofN t.row ∧ t.size ≤ 40 := by
  unfold treeB at h
  rw [Bool.and_eq_true, decide_eq_true_eq] at h
  obtain ⟨t, ht, rfl⟩ := runB_tree hk h.2
  rw [ofN_len] at h
  exact ⟨t, ht, rfl, by unfold Tr.size; omega⟩
def listI (ns : List Int) : PyData := .list (ns.map PyData.int)
def likB (m : Int) : Int → List Int → Bool
  | _, [] => true
  | b, x :: r => (decide (b < x) && decide (x < m)) && likB m x r
theorem BookAt.updI {M : Addr → Prop} {H : Hp} {C pb p C' dx : Addr} {S : List Sg} {fs : List (Str × V)} {o : HO} (h : BookAt C M H pb S) (hp : H p = some (.ins C' dx fs)) (hne : p ≠ pb) : BookAt C M (L2.upd H p o) pb S := by
  obtain ⟨dx', l1, l2, h1, h2, h3, h4, h5⟩ := h
  refine ⟨dx', l1, l2, ?_, ?_, h3, ?_, h5⟩
  · rw [upd_ne (Ne.symm hne)]
    exact h1
  · rw [upd_ne (ne_of h2 hp (by intro z; cases z))]
    exact h2
  · rw [upd_ne (ne_of h4 hp (by intro z; cases z))]
    exact h4
theorem okUpd {M : Addr → Prop} {H : Hp} {p : Addr} {o : HO} (ok : Ok M H) : Ok M (L2.upd H p o) := fun l m => by
  by_cases e : l = p
  · rw [e, upd_same]
    simp
  · rw [upd_ne e]
    exact ok l m
theorem pe_fldK {X : Cx} {K : PySem.W.Frag} {e : Expr} {f : Str} {pos : Pos} {ta : TE} (hK : X.K = K) (he : PE X e ta) (hb : attributeBase e f X.env (eval e X.env) = eval e X.env) : PE X (.Attribute e f pos) (tFld K ta f) := by
  subst hK
  exact pe_fld he hb
theorem call_list_ofK {X : Cx} {K : PySem.W.Frag} (h : X.K = K) : CallR X (.type "list") (fun xs H Q => ∃ p ys, xs = [.ref p] ∧ (SqL K H p ys ∨ SqT K H p ys) ∧ ∀ l, H l = none → Q (.ref l) (upd H l (.lst ys))) := by
  subst h
  exact call_list_of
theorem q_fldR {K : PySem.W.Frag} {H : Hp} {σ : L2.St} {D : Ends} {tz : TS} {i j : Nat} {f : Str} {v : V} {p C dx : Addr} {fs : List (Str × V)} (hv : σ[j]? = some (some v)) (hs : σ[i]? = some (some (.ref p))) (hp : H p = some (.ins C dx fs)) (c : Cls K C) (n : NoAttr K C f) (hl : fs.length < 1000)
    (k : tz D σ (upd H p (.ins C dx (putF f v fs)))) : tSeq (sFld K (tVar i) (tVar j) f) tz D σ H := ⟨v, hv, _, hs, p, C, dx, fs, rfl, hp, c, n, hl, k⟩
/-- data that are new since H, whatever may change of what stood -/
def MO (H : Hp) : Addr → Prop := fun a => H a ≠ none
theorem okO {H : Hp} : Ok (MO H) H := fun _ h => h
theorem newD_of {K : PySem.W.Frag} {H H' : Hp} {x : V} {d : PyData} (h : Dt K (MO H) H' x d) : NewD K H H' x d := fun M' ok => h.weak fun a m => ok a m
theorem NewD.from {K : PySem.W.Frag} {H0 H H' : Hp} {x : V} {d : PyData} (h : NewD K H H' x d) (e : ∀ b o, H0 b = some o → ∃ o', H b = some o') : NewD K H0 H' x d := fun M' ok => h M' fun l m => by
  cases hl : H0 l with
  | none => exact absurd hl (ok l m)
  | some o =>
    obtain ⟨o', h'⟩ := e l o hl
    rw [h']
    simp
structure GlobI (mg : Str → Option Value) : Prop where
  isinstance : mg "isinstance" = none
  bool : mg "bool" = none
structure ChM (M : Addr → Prop) (H H' : Hp) : Prop where
  keep : ∀ b o, H b = some o → ¬ M b → H' b = some o
  lst : ∀ b, M b → ∃ xs, H b = some (.lst xs)
section
variable {K : PySem.W.Frag} {M M' N Mb : Addr → Prop} {H H1 H' : Hp} {σ : L2.St} {ta tb tc te tl tm ts tx : TE} {tt : TT} {g : TG} {vs : List Nat} {E : XK} {d : PyData} {C CB CR p b pb : Addr} {S : List Sg} {ns : List Int}
/-- a field whose value are data -/
theorem evd_fld {i : Nat} {p C dx : Addr} {fs : List (Str × V)} {f : Str} {v : V} (hs : σ[i]? = some (some (.ref p))) (hp : H p = some (.ins C dx fs)) (c : Cls K C) (n : NoAttr K C f) (l : fs.lookup f = some v) (hd : Dt K M H v d) : EvD K M (tFld K (tVar i) f) σ H d := fun H1 e Q q =>
  ⟨_, hs, p, C, dx, fs, v, rfl, e _ _ hp, c, n, l, q v d H1 (Ex.refl _) (hd.ex e) rfl⟩
theorem dt_nums {a : Addr} {k : List Nat} (h : H a = some (.tup (nums k))) : Dt K M H (.ref a) (tupI (ofN k)) := .tup h (nums_dts k)
theorem dt_tupN {v : V} {k : List Nat} (h : Dt K M H v (tupI (ofN k))) : ∃ a, v = .ref a ∧ SqT K H a (nums k) := by
  obtain ⟨a, rfl, h1⟩ := dt_tup h
  rw [nums_of] at h1
  exact ⟨a, rfl, h1⟩
theorem dt_listN {K : PySem.W.Frag} {M : Addr → Prop} {H : Hp} {v : V} {r : List Nat} (h : Dt K M H v (intsD r)) : ∃ a, v = .ref a ∧ H a = some (.lst (nums r)) ∧ ¬ M a := by
  unfold intsD at h
  cases h with
  | lst h1 h2 h3 =>
    rw [h3.ints, nums_of] at h1
    exact ⟨_, rfl, h1, h2⟩
theorem evd_mulM {K : PySem.W.Frag} {M : Addr → Prop} {H : Hp} {σ : L2.St} {ta tb : TE} {i j : Int} (ha : EvD K M ta σ H (.int i)) (hb : EvD K M tb σ H (.int j)) (h : -(2 ^ 64) < i ∧ i < 2 ^ 64) : EvD K M (tOp (rI CMul fun i j => .int (i * j)) ta tb) σ H (.int (i * j)) :=
  evp_I ha hb fun a b pa pb => ⟨i, j, pa, pb, .inl h, _, rfl, fun _ => .int _⟩
theorem evn_lcE {β : Type} {bs : List β} (enc : β → PyData) (F : Nat → β → PyData) {ta : TA} (ok : Ok M H) (hl : EvDA K M ta σ H [.list (bs.map enc)]) (hz : bs.length < sizeLine)
    (hs : ∀ (M' : Addr → Prop) (i : Nat) (b : β) (x : V) (T : Addr) (H' : Hp), (∀ v d, Dt K M H v d → Dt K M' H' v d) → Ok M' H' → bs[i]? = some b → Ex H H' → Dt K M' H' x (enc b) → H' T = some (.tup [.int (i : Int), x]) →
      ∀ Qg : L2.St → Hp → Prop, (∀ σ2 H2, Ex H' H2 → Turned K M' σ vs tt te true (· = F i b) σ2 H2 → Qg σ2 H2) → g (.ref T) (wipe σ vs) H' Qg) :
    EvNew K M (tLc (iEnum K ta) g tt te vs) σ H (· = bs.zipIdx.map fun p => F p.2 p.1) := fun H0 e Q q =>
  hl H0 e _ fun us ds H1 e1 dv pd => by
    subst pd
    cases dv with
    | cons dv h0 =>
    cases h0
    cases dv with
    | lst h1 h2 h3 =>
      rename_i a xs
      refine ⟨a, xs, rfl, sq_of h1, fun D hD => ?_⟩
      have hw : Walk (Ite K a) bs.zipIdx.length (fun H => SqL K H a xs) (YPair (fun i => some (.int (i : Nat))) (fun i => xs[i]?)) := by
        have := h3.length
        rw [List.length_map] at this
        rw [List.length_zipIdx, ← this]
        exact walk_enum
      refine lc_data (K := K) (σ := σ) (vs := vs) bs.zipIdx hw ((ok.ex (e.trans e1))) hD (by rw [List.length_zipIdx]; exact hz) (fun _ => true) (fun p e => e = F p.2 p.1) (fun H e => sq_of (e _ _ h1)) (fun M' i p x H2 H' hm ok' hp e2 y Qg qg => ?_) (fun H2 es e2 dd pr => ?_)
      · obtain ⟨T, x0, y0, rfl, hT, rfl, hx, hy⟩ := y
        rw [List.getElem?_zipIdx] at hp
        cases hb : bs[i]? with
        | none =>
          rw [hb] at hp
          cases hp
        | some b =>
        rw [hb] at hp
        cases hp
        cases hx
        obtain ⟨d', hd', dx⟩ := h3.get hy
        rw [List.getElem?_map, hb] at hd'
        cases hd'
        have e3 : Ex H2 (upd H2 T (.tup [.int (i : Int), y0])) := Ex.new hT
        rw [Nat.zero_add] at qg
        exact hs M' i b y0 T _ (fun v d h => (hm v d (h.ex (e.trans e1))).ex (e2.trans e3)) (ok'.ex e3) hb (((e.trans e1).trans e2).trans e3) ((hm _ _ dx).ex (e2.trans e3)) upd_same Qg fun σ2 H3 e4 T4 => qg σ2 H3 (e3.trans e4) T4
      · cases dd with
        | lst w1 w2 w3 => exact q D _ es H2 (fresh_back e1 hD) (e1.trans e2) w1 w3 (by rw [paired_map pr, filter_all])
/-- a comprehension: what is gone over may lie among what changes -/
theorem evn_lcMN {β : Type} {bs : List β} (enc F : β → PyData) (ok : Ok N H) (hl : EvD K M tl σ H (.list (bs.map enc))) (hz : bs.length < sizeLine)
    (hs : ∀ (N' : Addr → Prop) (b : β) (x : V) (H' : Hp), (∀ v d, Dt K N H v d → Dt K N' H' v d) → Ok N' H' → b ∈ bs → Ex H H' → Dt K M H' x (enc b) →
      ∀ Qg : L2.St → Hp → Prop, (∀ σ2 H2, Ex H' H2 → Turned K N' σ vs tt te true (· = F b) σ2 H2 → Qg σ2 H2) → g x (wipe σ vs) H' Qg) :
    EvNew K N (tLc (iList K tl) g tt te vs) σ H (· = bs.map F) := fun H0 e Q q =>
  hl H0 e _ fun v d H1 e1 dv pd => by
    subst pd
    cases dv with
    | lst h1 h2 h3 =>
      rename_i a xs
      refine ⟨a, rfl, ⟨xs, sq_of h1⟩, fun D hD => ?_⟩
      have hw : Walk (Itl K a) bs.length (fun H => SqL K H a xs) (YAt xs) := by
        have := h3.length
        rw [List.length_map] at this
        rw [← this]
        exact walk_list
      refine lc_data (K := K) (σ := σ) (vs := vs) bs hw ((ok.ex (e.trans e1))) hD hz (fun _ => true) (fun b e => e = F b) (fun H e => sq_of (e _ _ h1)) (fun M' i b x H2 H' hm ok' hb e2 y Qg qg => ?_) (fun H2 es e2 dd pr => ?_)
      · obtain ⟨rfl, hx⟩ := y
        obtain ⟨d', hd', dx⟩ := h3.get hx
        rw [List.getElem?_map, hb] at hd'
        cases hd'
        exact hs M' b x _ (fun v d h => (hm v d (h.ex (e.trans e1))).ex e2) ok' (List.mem_of_getElem? hb) ((e.trans e1).trans e2) (dx.ex e2) Qg qg
      · cases dd with
        | lst w1 w2 w3 => exact q D _ es H2 (fresh_back e1 hD) (e1.trans e2) w1 w3 (by rw [paired_map pr, filter_all])
theorem evn_listOf {ta : TA} {ds : List PyData} (h : EvDA K M ta σ H [.list ds]) : ∀ H1, Ex H H1 → ∀ Q : VK, (∀ l xs H2, H1 l = none → Ex H1 H2 → H2 l = some (.lst xs) → Dts K M H2 xs ds → Q (.ref l) H2) → tCB (fun xs H Q => ∃ p ys, xs = [.ref p] ∧ (SqL K H p ys ∨ SqT K H p ys) ∧ ∀ l, H l = none → Q (.ref l) (upd H l (.lst ys))) ta σ H1 Q := fun H1 e Q q =>
  h H1 e _ fun vs es H2 e2 dv pd => by
    subst pd
    cases dv with
    | cons h1 h2 =>
      cases h2
      cases h1 with
      | lst k1 k2 k3 => exact ⟨_, _, rfl, .inl (sq_of k1), fun l hl => q l _ _ (fresh_back e2 hl) (e2.trans (Ex.new hl)) upd_same (k3.ex (Ex.new hl))⟩
/-- list(..) of ints: new -/
theorem evd_listNew {ta : TA} {ns : List Int} (ok : Ok N H) (h : EvDA K M ta σ H [listI ns]) : EvD K N (tCB (fun xs H Q => ∃ p ys, xs = [.ref p] ∧ (SqL K H p ys ∨ SqT K H p ys) ∧ ∀ l, H l = none → Q (.ref l) (upd H l (.lst ys))) ta) σ H (listI ns) := fun H1 e Q q =>
  evn_listOf h H1 e Q fun l xs H2 hl e2 h2 dx => q _ _ H2 e2 (.lst h2 ((ok.ex e).new hl) (by rw [dx.ints]; exact Dts.of_ints ns)) rfl
theorem evd_neB {i j : Bool} (ha : EvD K M ta σ H (.bool i)) (hb : EvD K M tb σ H (.bool j)) : EvD K M (tOp rNe ta tb) σ H (.bool (!decide (i = j))) :=
  evp_op ha hb fun x y a b H1 e dx dy px py Q q => by
    subst px py
    cases dx
    cases dy
    refine ⟨rfl, q _ _ H1 (Ex.refl _) (.bl _) ?_⟩
    simp
theorem evt_or2 {t u : TT} {c : Bool} (h1 : EvT t σ H false) (h2 : EvT u σ H c) : EvT (tOr t u) σ H c := fun H1 e Q q =>
  h1 H1 e _ fun H2 e2 => iteF (h2 H2 (e.trans e2) Q fun H3 e3 => q H3 (e2.trans e3))
theorem evt_isInt {i : Nat} {z : Int} {t2 : TE} (hs : σ[i]? = some (some (.int z))) (h2 : t2 = tC (.ty "bool")) : EvT (tB (tCB (rIsi K) (tCons (tVar i) (tCons t2 tNil)))) σ H false := fun H1 e Q q => by
  subst h2
  exact ⟨_, hs, .int _, .ty "bool", .type "int", .type "bool", false, rfl, .ty _, .base (.int _), kit_ty (by decide +kernel), _, rfl, q H1 (Ex.refl _)⟩
theorem evt_isBool {i : Nat} {z : Bool} {t2 : TE} (hs : σ[i]? = some (some (.bl z))) (h2 : t2 = tC (.ty "bool")) : EvT (tB (tCB (rIsi K) (tCons (tVar i) (tCons t2 tNil)))) σ H true := fun H1 e Q q => by
  subst h2
  exact ⟨_, hs, .bl _, .ty "bool", .type "bool", .type "bool", true, rfl, .ty _, .base (.bl _), kit_ty (by decide +kernel), _, rfl, q H1 (Ex.refl _)⟩
theorem ChM.at (c : ChM M H H') {a : Addr} {o : HO} (h : H a = some o) (n : ∀ xs, o ≠ .lst xs) : H' a = some o := c.keep a o h fun m => by
  obtain ⟨xs, hx⟩ := c.lst a m
  rw [h] at hx
  exact n xs (Option.some.inj hx)
theorem Dt.ch {v : V} {d : PyData} (h : Dt K M H v d) (c : ChM M H H') : Dt K M H' v d := Dt.move (fun a xs h n => ⟨c.keep a _ h n, n⟩) (fun a xs h => c.at h fun _ z => by cases z) d v h
theorem BookAt.ch (h : BookAt C M H p S) (c : ChM M H H') : BookAt C M H' p S := by
  obtain ⟨dx, l1, l2, h1, h2, h3, h4, h5⟩ := h
  exact ⟨dx, l1, l2, c.at h1 (fun _ z => by cases z), c.keep _ _ h2 h3, h3, c.keep _ _ h4 h5, h5⟩
/-- what stands already is not among what is new -/
theorem Dt.avoid {v : V} {d : PyData} (h : Dt K M H v d) (n : ∀ a, M' a → M a ∨ H a = none) : Dt K M' H v d := Dt.move (fun a xs h k => ⟨h, fun z => (n a z).elim k fun e => by rw [e] at h; cases h⟩) (fun a xs h => h) d v h
theorem BookAt.avoid (h : BookAt C M H p S) (n : ∀ a, M' a → M a ∨ H a = none) : BookAt C M' H p S := by
  obtain ⟨dx, l1, l2, h1, h2, h3, h4, h5⟩ := h
  refine ⟨dx, l1, l2, h1, h2, fun z => (n _ z).elim h3 fun e => ?_, h4, fun z => (n _ z).elim h5 fun e => ?_⟩
  · rw [e] at h2
    cases h2
  · rw [e] at h4
    cases h4
theorem evp_lrow {mx : Nat} (ok : Ok M H) (hb : Ev tb σ H (.ref b)) (hx : H b = some (Box b)) (hv : EvD K M ts σ H (.list (S.map sgD))) (g : Good S) (hm : EvP K M tm σ H (fun d => ∃ m : Nat, d = .int (m : Int) ∧ 1 ≤ m ∧ m ≤ mx)) (hmx : mx ≤ 1000) :
    EvP K M (tCall (spLRow K) [] E (tCons tb (tCons ts (tCons tm tNil)))) σ H (fun d => ∃ t, d = rowD t ∧ OkT S t ∧ t.size ≤ mx) := fun H1 e Q q =>
  hb H1 e _ fun H2 e2 => hv H2 (e.trans e2) _ fun v d H3 e3 dv pd => hm H3 ((e.trans e2).trans e3) _ fun vm dm H4 e4 dvm pm => by
    subst pd
    obtain ⟨m, rfl, m1, m2⟩ := pm
    cases dvm
    have e04 := ((e.trans e2).trans e3).trans e4
    exact ⟨M, b, v, S, m, rfl, ok.ex e04, e04 _ _ hx, dv.ex e4, g, m1, by omega, fun u t H5 e5 hO hs du => q u _ H5 (((e2.trans e3).trans e4).trans e5) (dt_any du) ⟨t, rfl, hO, by omega⟩⟩
/-- one of some numbers -/
theorem evp_pick {ns : List Int} {n : Int} (hl : EvD K M tl σ H (.list (ns.map PyData.int))) (hb : Ev tb σ H (.ref b)) (hx : H b = some (Box b)) (hn : EvD K M tm σ H (.int n)) (en : n = (ns.length : Int)) (n0 : 0 < ns.length) (n1 : ns.length ≤ 1000) :
    EvP K M (tOp (rIxL K) tl (tCall spTake [] E (tCons tb (tCons tm tNil)))) σ H (fun d => ∃ z, d = .int z ∧ z ∈ ns) :=
  evp_op hl (evp_take hb hx hn (by omega) (Nat.lt_of_le_of_lt (show n.natAbs ≤ 1000 by omega) (by decide))) fun x y a dd H7 e7 dx dy px py Q q => by
    obtain ⟨k, rfl, k0, k1⟩ := py
    subst px
    cases dy
    cases dx with
    | lst w1 w2 w3 =>
    have ew := Dts.ints ns w3
    subst ew
    obtain ⟨j, rfl⟩ := Int.eq_ofNat_of_zero_le k0
    have hj : ns[j]? = some (ns[j]'(by omega)) := List.getElem?_eq_getElem _
    exact ⟨_, _, _, _, rfl, rfl, sq_of w1, atI_nat (by rw [List.getElem?_map, hj]; rfl), q _ _ H7 (Ex.refl _) (.int _) ⟨_, rfl, List.mem_of_getElem? hj⟩⟩
end
theorem q_parR {ta tb : TE} {i j : Nat} {tz : TS} {D : Ends} {σ : L2.St} {H : Hp} (h : ta σ H fun x H1 => tb σ H1 fun y H2 => ∃ v w, [x, y] = [v, w] ∧ tz D ((σ.set i (some v)).set j (some w)) H2) : tSeq (tPar i j (tCons ta (tCons tb tNil))) tz D σ H := h
abbrev sAreLiked : Stmt := top 13
def spAreLiked (K : PySem.W.Frag) : Sp := fun vs H Q _ => ∃ (M : Addr → Prop) (v : V) (ls : List Int) (m : Int), vs = [v, .int m] ∧ Dt K M H v (listI ls) ∧ ∀ H', Ex H H' → Q (.bl (likB m (-1) ls)) H'
section
variable {P : Program} {w : World} {K : PySem.W.Frag} {mg : Str → Option Value} {base : Heap}
abbrev nAreLiked : List Str := ["liked", "moods", "before", "mood"]
theorem scAreLiked : FnScope nAreLiked ["liked", "moods"] (defScope sAreLiked) := ⟨rfl, rfl, rfl, by decide +kernel, rfl, by decide +kernel, by decide +kernel⟩
theorem ok_areliked {f : Addr} {fd : FuncData} (F : Fun K "are_liked" "are_liked" sAreLiked f fd) : FnOk P w K mg base CX0 1 f fd ["liked", "moods"] (spAreLiked K) := by
  refine F.ok scAreLiked (fun vs H Q E h => ?_) (fun cdv A outer s0 H vs Q E hr h => ?_)
  · obtain ⟨M, v, ls, m, rfl, _⟩ := h
    rfl
  · obtain ⟨M, v, ls, m, rfl, hv, q⟩ := h
    refine ⟨_, pss_cons (ps_set (i := 2) scAreLiked.nd rfl (.inl rfl) (pe_un un_neg pe_int))
      (pss_cons (ps_for PassesOwn.never rfl (pi_list (pv 0)) (pg_name (i := 3) scAreLiked.nd rfl (.inl rfl))
        (pss_cons (ps_if (pt_not (pt_chain op_lt op_lt (pv 2) (pv 3) (pv 1))) (pss_one (ps_ret pe_bl)) pss_nil)
        (pss_one (ps_set (i := 2) scAreLiked.nd rfl (.inl rfl) (pv 3)))))
      (pss_one (ps_ret pe_bl))), ?_⟩
    have hv0 := hv
    unfold listI at hv
    cases hv with
    | lst h1 h2 h3 =>
    rename_i a xs
    have ew := h3.ints
    subst ew
    refine ⟨1, rfl, ?_⟩
    refine q_forL (K := K) (a := a) (xs := ls.map V.int) (ev_var (i := 0) rfl) (sq_of h1)
      (fun i σ' H' => Ex H H' ∧ ∃ (b : Int) (u : Option V), σ' = [some (.ref a), some (.int m), some (.int b), u] ∧ likB m (-1) ls = likB m b (ls.drop i))
      (fun H1 e1 => ⟨e1, -1, none, rfl, rfl⟩) (fun i σ' H' _ z => sq_of (z.1 _ _ h1)) ?_ ?_
    · rintro i x σ' H1 hx ⟨e, b, u, rfl, hd⟩
      rw [List.getElem?_map] at hx
      cases hz : ls[i]? with
      | none =>
        rw [hz] at hx
        cases hx
      | some z =>
      rw [hz] at hx
      cases hx
      obtain ⟨hlt, ez⟩ := List.getElem?_eq_some_iff.mp hz
      have ed : ls.drop i = z :: ls.drop (i + 1) := by rw [List.drop_eq_getElem_cons hlt, ez]
      rw [ed, likB] at hd
      refine q_when (evt_not (evt_test (K := K) (M := MF) (evd_chainI (g := fun i j => decide (i < j)) (g' := fun i j => decide (i < j)) (evd_var (i := 2) rfl (.int b)) (evd_var (i := 3) rfl (.int z)) (evd_var (i := 1) rfl (.int m))))) (fun hb H2 e2 => ?_) (fun hb H2 e2 => ?_)
      · rw [Bool.not_eq_true'] at hb
        rw [hb] at hd
        have := q H2 (e.trans e2)
        rw [hd] at this
        exact this
      · rw [Bool.not_eq_false'] at hb
        rw [hb, Bool.true_and] at hd
        exact ⟨_, rfl, e.trans e2, z, _, rfl, hd⟩
    · rintro σ' H1 ⟨e, b, u, rfl, hd⟩
      rw [List.length_map, List.drop_length, likB] at hd
      have := q H1 e
      rw [hd] at this
      exact this
end
end TH
set_option maxRecDepth 100000
set_option maxHeartbeats 4000000
namespace TH
open PySem L2 Evl RZ
section
variable {K : PySem.W.Frag} {a b : Addr} {xs ys : List V}
theorem walk_zipT {n : Nat} (hn : n = min xs.length ys.length) : Walk (ItzT K a b) n (fun H => SqT K H a xs ∧ SqT K H b ys) (YPair (fun i => xs[i]?) (fun i => ys[i]?)) := by
  subst hn
  refine ⟨fun i _ hi q => ?_, fun _ q => ⟨xs, ys, q.1, q.2, by omega⟩, fun i H v H' _ q y => ?_⟩
  · have h1 : i < xs.length := by omega
    have h2 : i < ys.length := by omega
    exact ⟨xs, ys, xs[i], ys[i], q.1, q.2, by simp [h1], by simp [h2]⟩
  · obtain ⟨T, x, z, h1, h2, h3, h4, h5⟩ := y
    exact ⟨T, x, z, h1, h2, h3, h4 xs q.1, h5 ys q.2⟩
end
section
variable {K : PySem.W.Frag} {M M' N Mb : Addr → Prop} {H H1 H' : Hp} {σ : L2.St} {ta tb tc te tl : TE} {tt : TT} {g : TG} {vs : List Nat}
/-- a comprehension over a tuple -/
theorem evn_lcTM {β : Type} {bs : List β} (enc F : β → PyData) (ok : Ok M H) (hl : EvD K M tl σ H (.tuple (bs.map enc))) (hz : bs.length < sizeLine)
    (hs : ∀ (M' : Addr → Prop) (b : β) (x : V) (H' : Hp), (∀ v d, Dt K M H v d → Dt K M' H' v d) → Ok M' H' → b ∈ bs → Ex H H' → Dt K M' H' x (enc b) →
      ∀ Qg : L2.St → Hp → Prop, (∀ σ2 H2, Ex H' H2 → Turned K M' σ vs tt te true (· = F b) σ2 H2 → Qg σ2 H2) → g x (wipe σ vs) H' Qg) :
    EvNew K M (tLc (iTup K tl) g tt te vs) σ H (· = bs.map F) := fun H0 e Q q =>
  hl H0 e _ fun v d H1 e1 dv pd => by
    subst pd
    cases dv with
    | tup h1 h3 =>
      rename_i a xs
      refine ⟨a, rfl, ⟨xs, SqT.of h1⟩, fun D hD => ?_⟩
      have hw : Walk (Itt K a) bs.length (fun H => SqT K H a xs) (YAt xs) := by
        have := h3.length
        rw [List.length_map] at this
        rw [← this]
        exact walk_tup
      refine lc_data (K := K) (σ := σ) (vs := vs) bs hw ((ok.ex (e.trans e1))) hD hz (fun _ => true) (fun b e => e = F b) (fun H e => SqT.of (e _ _ h1)) (fun M' i b x H2 H' hm ok' hb e2 y Qg qg => ?_) (fun H2 es e2 dd pr => ?_)
      · obtain ⟨rfl, hx⟩ := y
        obtain ⟨d', hd', dx⟩ := h3.get hx
        rw [List.getElem?_map, hb] at hd'
        cases hd'
        exact hs M' b x _ (fun v d h => (hm v d (h.ex (e.trans e1))).ex e2) ok' (List.mem_of_getElem? hb) ((e.trans e1).trans e2) ((hm _ _ dx).ex e2) Qg qg
      · cases dd with
        | lst w1 w2 w3 => exact q D _ es H2 (fresh_back e1 hD) (e1.trans e2) w1 w3 (by rw [paired_map pr, filter_all])
/-- a comprehension over two tuples, side by side -/
theorem evn_lcZT {β γ : Type} {bs : List β} {cs : List γ} (enc : β → PyData) (enc' : γ → PyData) (f : β → γ → Bool) (F : β → γ → PyData) {tx : TE} (ok : Ok M H) (hl : EvD K M tl σ H (.tuple (bs.map enc))) (hl2 : EvD K M tx σ H (.tuple (cs.map enc'))) (hz : bs.length < sizeLine)
    (hs : ∀ (M' : Addr → Prop) (i : Nat) (b : β) (c : γ) (x y : V) (T : Addr) (H' : Hp), (∀ v d, Dt K M H v d → Dt K M' H' v d) → Ok M' H' → bs[i]? = some b → cs[i]? = some c → Ex H H' → Dt K M' H' x (enc b) → Dt K M' H' y (enc' c) → H' T = some (.tup [x, y]) →
      ∀ Qg : L2.St → Hp → Prop, (∀ σ2 H2, Ex H' H2 → Turned K M' σ vs tt te (f b c) (· = F b c) σ2 H2 → Qg σ2 H2) → g (.ref T) (wipe σ vs) H' Qg) :
    EvNew K M (tLc (iZipA K (tCons tl (tCons tx tNil))) g tt te vs) σ H (· = ((bs.zip cs).filter fun p => f p.1 p.2).map fun p => F p.1 p.2) := fun H0 e Q q =>
  hl H0 e _ fun v d H1 e1 dv pd => hl2 H1 (e.trans e1) _ fun v' d' H2 e2 dv' pd' => by
    subst pd pd'
    have dv2 := dv.ex e2
    cases dv2 with
    | tup h1 h3 =>
    cases dv' with
    | tup k1 k3 =>
      rename_i a xs b ys
      refine ⟨a, b, xs, ys, rfl, .inr ⟨SqT.of h1, SqT.of k1, fun D hD => ?_⟩⟩
      have l1 := h3.length
      have l2 := k3.length
      rw [List.length_map] at l1 l2
      have e02 := e1.trans e2
      refine lc_data (K := K) (σ := σ) (vs := vs) (bs.zip cs) (walk_zipT (K := K) (a := a) (b := b) (xs := xs) (ys := ys) (by rw [List.length_zip, l1, l2])) ((ok.ex (e.trans e02))) hD (Nat.lt_of_le_of_lt (by rw [List.length_zip]; exact Nat.min_le_left _ _) hz) (fun p => f p.1 p.2) (fun p e => e = F p.1 p.2) (fun H e => ⟨SqT.of (e _ _ h1), SqT.of (e _ _ k1)⟩) (fun M' i p x H3 H' hm ok' hp e3 y Qg qg => ?_) (fun H3 es e3 dd pr => ?_)
      · obtain ⟨T, x0, y0, rfl, hT, rfl, hx, hy⟩ := y
        obtain ⟨hb, hc⟩ : bs[i]? = some p.1 ∧ cs[i]? = some p.2 := List.getElem?_zip_eq_some.mp hp
        obtain ⟨d1, hd1, dx⟩ := h3.get hx
        rw [List.getElem?_map, hb] at hd1
        cases hd1
        obtain ⟨d2, hd2, dy⟩ := k3.get hy
        rw [List.getElem?_map, hc] at hd2
        cases hd2
        have e4 : Ex H3 (upd H3 T (.tup [x0, y0])) := Ex.new hT
        exact hs M' i p.1 p.2 x0 y0 T _ (fun v d h => (hm v d (h.ex (e.trans e02))).ex (e3.trans e4)) (ok'.ex e4) hb hc (((e.trans e02).trans e3).trans e4) ((hm _ _ dx).ex (e3.trans e4)) ((hm _ _ dy).ex (e3.trans e4)) upd_same Qg fun σ2 H5 e5 T5 => qg σ2 H5 (e4.trans e5) T5
      · cases dd with
        | lst w1 w2 w3 => exact q D _ es H3 (fresh_back e02 hD) (e02.trans e3) w1 w3 (paired_map pr)
/-- sorted({e for x in list if ..}), fewer than 64 of them: their numbers, rising -/
theorem evp_sortedSc {β : Type} {w : World} {bs : List β} (enc : β → PyData) (f : β → Bool) (F : β → Int) (ok : Ok M H) (hl : EvD K M tl σ H (.list (bs.map enc))) (hz : bs.length < 60)
    (hs : ∀ (M' : Addr → Prop) (b : β) (x : V) (H' : Hp), (∀ v d, Dt K M H v d → Dt K M' H' v d) → Ok M' H' → b ∈ bs → Ex H H' → Dt K M' H' x (enc b) →
      ∀ Qg : L2.St → Hp → Prop, (∀ σ2 H2, Ex H' H2 → Turned K M' σ vs tt te (f b) (· = .int (F b)) σ2 H2 → Qg σ2 H2) → g x (wipe σ vs) H' Qg) :
    EvNew K M (tCB (rSortedSet w) (tCons (tScO w (iList K tl) g tt te vs) tNil)) σ H (fun ds => ∃ ns : List Int, ds = ns.map PyData.int ∧ ns.Pairwise (· < ·) ∧ ∀ k, k ∈ ns ↔ ∃ b ∈ bs, f b = true ∧ F b = k) := fun H0 e Q q =>
  hl H0 e _ fun v d H1 e1 dv pd => by
    subst pd
    cases dv with
    | lst h1 h2 h3 =>
      rename_i a xs
      have l3 := h3.length
      rw [List.length_map] at l3
      refine ⟨a, rfl, ⟨xs, sq_of h1⟩, fun D hD => ?_⟩
      have okD : ∀ {H}, Ex H1 H → H D ≠ none → Ok (TH.more M D) H := fun {H} e2 n l m => by
        rcases m with m | rfl
        · exact (ok.ex ((e.trans e1).trans e2)) l m
        · exact n
      have fin : ∀ (T : List Int), ∃ S : Int → Bool, S = fun j => decide (j ∈ T) := fun T => ⟨_, rfl⟩
      refine ⟨fun i m H => m = bs.length - i ∧ i ≤ bs.length ∧ Ex H1 H ∧ ∃ n, n ≤ i ∧ H D = some (SetO w D (fun j => decide (j ∈ ((bs.take i).filter f).map F)) n),
        ⟨bs.length, by simp, Nat.zero_le _, Ex.new hD, 0, Nat.le_refl _, ?_⟩, ?_⟩
      · exact upd_same
      rintro i m H2 ⟨rfl, hi, e2, n, hn, hset⟩
      by_cases hlt : i < bs.length
      · refine .inr ⟨⟨xs, xs[i]'(by omega), sq_of (e2 _ _ h1), by simp⟩, fun H' => Ex H1 H' ∧ ∃ n, n ≤ i + 1 ∧ H' D = some (SetO w D (fun j => decide (j ∈ ((bs.take (i + 1)).filter f).map F)) n), fun H' p' => ⟨bs.length - (i + 1), by omega, rfl, hlt, p'⟩, fun x H' y => ?_⟩
        obtain ⟨rfl, hx⟩ := y
        have hx := hx xs (sq_of (e2 _ _ h1))
        obtain ⟨d, hd, dx⟩ := h3.get hx
        have hb : bs[i]? = some (bs[i]'hlt) := List.getElem?_eq_getElem _
        generalize bs[i]'hlt = b at hb
        rw [List.getElem?_map, hb] at hd
        cases hd
        have tk : (bs.take (i + 1)).filter f = (bs.take i).filter f ++ (if f b = true then [b] else []) := by
          rw [List.take_add_one, hb, List.filter_append]
          congr 1
          show List.filter f [b] = _
          cases hf : f b <;> simp [hf]
        refine hs (TH.more M D) b x _ (fun v d h => ((h.ex (e.trans e1)).more hD).ex e2) (okD e2 (by rw [hset]; simp)) (List.mem_of_getElem? hb) ((e.trans e1).trans e2) ((dx.more hD).ex e2) _ fun σ2 H3 e3 T => ?_
        obtain ⟨hw, ht, he⟩ := T
        refine ⟨hw, ht H3 (Ex.refl _) _ fun H4 e4 => ?_⟩
        cases hf : f b with
        | true =>
          rw [hf] at he
          refine iteT (he rfl H4 e4 _ fun y d H5 e5 dy py => ?_)
          subst py
          cases dy
          have e35 := (e3.trans e4).trans e5
          refine ⟨F b, _, n, rfl, e35 _ _ hset, ?_, Ex.mut (e2.trans e35) hD, if decide (F b ∈ ((bs.take i).filter f).map F) = true then n else n + 1, ?_, ?_⟩
          · have h3 : (2000 : Nat) < scanBound := by decide
            omega
          · split <;> omega
          · rw [upd_same]
            congr 2
            funext j
            rw [tk, if_pos hf, List.map_append]
            simp only [List.map_cons, List.map_nil, List.mem_append, List.mem_singleton, Bool.decide_or]
        | false =>
          refine iteF ⟨e2.trans (e3.trans e4), n, by omega, ?_⟩
          rw [tk, hf, if_neg (by decide), List.append_nil]
          exact (e3.trans e4) _ _ hset
      · have ei : i = bs.length := by omega
        subst ei
        refine .inl ⟨⟨xs, sq_of (e2 _ _ h1), by omega⟩, ?_⟩
        rw [List.take_length] at hset
        refine ⟨D, _, n, rfl, hset, by omega, fun ns p hs1 hs2 hs3 hp => ?_⟩
        refine q p _ (ns.map PyData.int) _ (fresh_back (e1.trans e2) hp) ((e1.trans e2).trans (Ex.new hp)) upd_same (Dts.of_ints ns) ⟨ns, rfl, hs1, fun k => ?_⟩
        rw [hs2 k, decide_eq_true_eq, List.mem_map]
        constructor
        · rintro ⟨b, hb, rfl⟩
          obtain ⟨h1, h2⟩ := List.mem_filter.mp hb
          exact ⟨b, h1, h2, rfl⟩
        · rintro ⟨b, hb, h1, rfl⟩
          exact ⟨b, List.mem_filter.mpr ⟨hb, h1⟩, rfl⟩
/-- tuple(..) of a list of ints -/
theorem evd_tupOf {ns : List Int} {ta : TA} (h : EvDA K M ta σ H [listI ns]) : EvD K N (tCB (fun xs H Q => ∃ p ys, xs = [.ref p] ∧ ((SqL K H p ys ∧ ∀ t, H t = none → Q (.ref t) (upd H t (.tup ys))) ∨ (SqT K H p ys ∧ Q (.ref p) H))) ta) σ H (tupI ns) := fun H1 e Q q =>
  h H1 e _ fun vs es H2 e2 dv pd => by
    subst pd
    cases dv with
    | cons h1 h2 =>
      cases h2
      cases h1 with
      | lst k1 k2 k3 => exact ⟨_, _, rfl, .inl ⟨sq_of k1, fun t ht => q _ _ _ (e2.trans (Ex.new ht)) (.tup upd_same (by rw [k3.ints]; exact Dts.of_ints ns)) rfl⟩⟩
end
end TH
set_option maxRecDepth 100000
set_option maxHeartbeats 4000000
namespace TH
open PySem L2 Evl
abbrev sLed : Stmt := top 11
/-! ### what a row leads to, from the leaves -/
def foldT (F : Nat → List PyData → PyData) : Tr → PyData
  | .n0 s => F s []
  | .n1 s t => F s [foldT F t]
  | .n2 s t u => F s [foldT F t, foldT F u]
theorem foldT_eq (F : Nat → List PyData → PyData) (t : Tr) : foldT F t = F t.root (t.kids.map (foldT F)) := by
  cases t <;> rfl
def waitF (F : Nat → List PyData → PyData) (ts : List Tr) : List PyData := (ts.map (foldT F)).reverse
theorem waitF_cons (F : Nat → List PyData → PyData) (t : Tr) (ts : List Tr) : waitF F (t :: ts) = waitF F ts ++ [foldT F t] := by
  unfold waitF
  rw [List.map_cons, List.reverse_cons]
theorem waitF_len (F : Nat → List PyData → PyData) (ts : List Tr) : (waitF F ts).length = ts.length := by
  unfold waitF
  rw [List.length_reverse, List.length_map]
theorem kidsNum' {S : List Sg} (hK : KidsOk S) {t : Tr} (hO : OkT S t) : ∃ r, S[t.root]? = some r ∧ r.2 = (t.kids.length : Int) := by
  have hrt : t.root < S.length := hO.root
  have hSr : S[t.root]? = some (S[t.root]'hrt) := List.getElem?_eq_getElem hrt
  refine ⟨_, hSr, ?_⟩
  have h1 := hO.ark
  rw [ks_of hSr] at h1
  have := hK _ (List.mem_of_getElem? hSr)
  omega
theorem okTsuf' {S : List Sg} {t u : Tr} {us : List Tr} {n : Nat} (hO : OkT S t) (h : Tr.suf n [t] = u :: us) : OkT S u :=
  Tr.okF_suf n (ts := [t]) (fun x hx => by rw [List.mem_singleton.mp hx]; exact hO) u (by rw [h]; exact List.mem_cons_self)
theorem woodLen' : ∀ ts : List Tr, ts.length ≤ Tr.sizeF ts
  | [] => Nat.le_refl _
  | t :: ts => by
    rw [Tr.sizeF_cons, List.length_cons]
    have := Tr.size_pos t
    have := woodLen' ts
    omega
theorem Dts.unsnoc {K : PySem.W.Frag} {M : Addr → Prop} {H : Hp} : ∀ {ds : List PyData} {d : PyData} {vs : List V}, Dts K M H vs (ds ++ [d]) → ∃ ws v, vs = ws ++ [v] ∧ Dts K M H ws ds ∧ Dt K M H v d
  | [], d, _, .cons h .nil => ⟨[], _, rfl, .nil, h⟩
  | e :: ds, d, _, .cons h t => by
    obtain ⟨ws, v, rfl, h1, h2⟩ := Dts.unsnoc t
    exact ⟨_ :: ws, v, rfl, .cons h h1, h2⟩
def spLed (K : PySem.W.Frag) (CB g : Addr) (sp : Sp) : Sp := fun vs H Q _ => ∃ (pb q a : Addr) (v : V) (S : List Sg) (t : Tr) (F : Nat → List PyData → PyData), vs = [.ref pb, v, .ref q] ∧ BookAt CB MF H pb S ∧ KidsOk S ∧ Dt K MF H v (rowD t) ∧ OkT S t ∧ t.size ≤ 1000 ∧ H q = some (.met g a) ∧
  (∀ (u : Tr) (z : V) (H1 : Hp) (Q1 : VK) (E1 : XK), Ex H H1 → OkT S u → Dt K MT H1 z (.tuple (u.kids.map (foldT F))) → (∀ x H2, Ex H1 H2 → Dt K MT H2 x (foldT F u) → Q1 x H2) → sp [.ref a, .int (u.root : Int), z] H1 Q1 E1) ∧
  ∀ x H', Ex H H' → Dt K MT H' x (foldT F t) → Q x H'
section
variable {P : Program} {w : World} {K : PySem.W.Frag} {mg : Str → Option Value} {base : Heap} {CB : Addr}
abbrev nLed : List Str := ["book", "row", "lead", "waiting", "sign", "kids", "_"]
theorem scLed : FnScope nLed ["book", "row", "lead"] (defScope sLed) := ⟨rfl, rfl, rfl, by decide +kernel, rfl, by decide +kernel, by decide +kernel⟩
theorem ok_led {f g : Addr} {fd : FuncData} {sp : Sp} {k : Nat} (F : Fun K "led" "led" sLed f fd) (G : Glob mg) (GR : GlobR mg) (GU : GlobU mg) (B : BookK P w K mg base CB) (Fg : FnR P w K mg base CX0 k g sp) (hk1 : 1 ≤ k) (fi : PySem.W.fnIn K g = true) :
    FnOk P w K mg base CX0 (k + 1) f fd ["book", "row", "lead"] (spLed K CB g sp) := by
  obtain ⟨T, _, ⟨f2, d2, m2, g2, b2⟩⟩ := B
  refine F.ok scLed (fun vs H Q E h => ?_) (fun cdv A outer s0 H vs Q E hr h => ?_)
  · obtain ⟨pb, q, a, v, S, t, F, rfl, _⟩ := h
    rfl
  · obtain ⟨pb, qm, am, v, S, t, F, rfl, hB, hK, hv, hO, hN, hq, hlead, q⟩ := h
    have hr1 : Room 1 _ := hr.mono hk1
    refine ⟨_, pss_cons (ps_set (i := 3) scLed.nd rfl (.inl rfl) (pe_lst pa_nil))
      (pss_cons (ps_for PassesOwn.never rfl (RT.pi_revA (by rfl) GR.reversed (pv 1)) (pg_name (i := 4) scLed.nd rfl (.inl rfl))
        (pss_cons (ps_set (i := 5) scLed.nd rfl (.inl rfl) (pe_lst pa_nil))
        (pss_cons (ps_for PassesOwn.never rfl (pi_range1 rfl G.range (pa_cons (pe_meth (pv 0) T.cl m2 g2 hr1 b2 .nil pass0 (pa_cons (pv 4) pa_nil)) pa_nil)) (pg_name (i := 6) scLed.nd rfl (.inl rfl))
          (pss_one (ps_expr (pe_bm PySem.F.plainAttrs_list PySem.F.slot_list_append PySem.F.type_list_append mt_append (pv 5) (pa_cons (pe_bm0 PySem.F.plainAttrs_list PySem.F.slot_list_pop PySem.F.type_list_pop mt_pop (pv 3)) pa_nil)))))
        (pss_one (ps_expr (pe_bm PySem.F.plainAttrs_list PySem.F.slot_list_append PySem.F.type_list_append mt_append (pv 3) (pa_cons (pe_callM (pv 2) Fg hr pass0 fi (pa_cons (pv 4) (pa_cons (pe_callTy call_tuple_of (by rfl) GU.tuple (by decide +kernel) (pa_cons (pv 5) pa_nil)) pa_nil))) pa_nil)))))))
      (pss_one (ps_ret (pe_ix ix_list (pv 3) pe_int (fun _ _ => rfl))))), ?_⟩
    obtain ⟨a, rfl, hS⟩ := dt_tupS hv
    have hlen : ((ofN t.row).map V.int).length = t.size := by rw [List.length_map, ofN_len]; rfl
    refine ⟨by decide, fun lw hw => ?_⟩
    have e1 : Ex H (upd H lw (.lst [])) := Ex.new hw
    have hw1 : (upd H lw (.lst [])) lw = some (.lst []) := upd_same
    generalize upd H lw (.lst []) = H1 at e1 hw1
    refine ⟨_, rfl, a, _, rfl, .inr ⟨SqT.of (e1 _ _ hS), RT.for_ItvT (fun i σ' H' => Ex H H' ∧ ∃ u4 u5 u6 xs, σ' = [some (.ref pb), some (.ref a), some (.ref qm), some (.ref lw), u4, u5, u6] ∧ H' lw = some (.lst xs) ∧ Dts K MT H' xs (waitF F (Tr.suf (t.size - i) [t])) ∧ i ≤ t.size)
      ⟨e1, none, none, none, [], rfl, hw1, ?_, Nat.zero_le _⟩ (fun i σ' H' h => SqT.of (h.1 _ _ hS)) ?_ ?_⟩⟩
    · rw [Nat.sub_zero, Tr.suf_nil.mpr (by rw [Tr.size_one]; exact Nat.le_refl _)]
      exact .nil
    · rintro i x σ' H2 hi hx ⟨e2, u4, u5, u6, xs, rfl, hw2, dw2, _⟩
      rw [hlen] at hi hx
      have hpN : t.size - 1 - i < Tr.sizeF [t] := by rw [Tr.size_one]; omega
      obtain ⟨u, us, hu, hroot⟩ := Tr.suf_cons hpN
      generalize hp : t.size - 1 - i = p' at hpN hu hroot hx
      have e0 : t.size - i = p' + 1 := by omega
      rw [Tr.row_one] at hroot
      have hx' : ((ofN t.row).map V.int)[p']? = some (.int (u.root : Int)) := by rw [List.getElem?_map, ofN_at hroot]; rfl
      rw [hx'] at hx
      cases hx
      have hOu : OkT S u := okTsuf' hO hu
      have hsuc : Tr.suf (p' + 1) [t] = u.kids ++ us := by rw [Tr.suf_succ, hu]; rfl
      rw [e0, hsuc] at dw2
      obtain ⟨r, hr1, hr2⟩ := kidsNum' hK hOu
      have hk2 := Tr.kids_le u
      have hul : us.length + 1 ≤ t.size := by
        have h1 := woodLen' (Tr.suf p' [t])
        have h2 := Tr.rowF_suf p' [t]
        have h3 : Tr.sizeF (Tr.suf p' [t]) ≤ t.size := by
          unfold Tr.sizeF
          rw [h2, List.length_drop, Tr.row_one]
          exact Nat.sub_le _ _
        rw [hu, List.length_cons] at h1
        rw [hu] at h3
        omega
      refine ⟨by decide, fun lk hlk => ?_⟩
      have hne : lw ≠ lk := ne_of_none hw2 hlk
      have hlkH : H lk = none := fresh_back e2 hlk
      have hwH : H lw = none := hw
      have e3 : Ex H (upd H2 lk (.lst [])) := e2.trans (Ex.new hlk)
      have hw3 : (upd H2 lk (.lst [])) lw = some (.lst xs) := by rw [upd_ne hne]; exact hw2
      have dw3 : Dts K MT (upd H2 lk (.lst [])) xs (waitF F (u.kids ++ us)) := dw2.ex (Ex.new hlk)
      have hk3 : (upd H2 lk (.lst [])) lk = some (.lst []) := upd_same
      generalize upd H2 lk (.lst []) = H3 at e3 hw3 dw3 hk3
      refine q_forR1 (ea_cons (ev_ofI (K := K) (M := MF) (evd_kids (j := u.root) rfl (hB.ex e3) (evd_var (i := 4) rfl (.int _)) rfl hr1)) ea_nil) (by omega)
        (fun j σ' H' => Ex H H' ∧ ∃ u6 xs ys, σ' = [some (.ref pb), some (.ref a), some (.ref qm), some (.ref lw), some (.int (u.root : Int)), some (.ref lk), u6] ∧ H' lw = some (.lst xs) ∧ Dts K MT H' xs (waitF F (u.kids.drop j ++ us)) ∧ H' lk = some (.lst ys) ∧ Dts K MT H' ys ((u.kids.take j).map (foldT F)))
        (fun H4 e4 => ⟨e3.trans e4, _, xs, [], rfl, e4 _ _ hw3, by rw [List.drop_zero]; exact dw3.ex e4, e4 _ _ hk3, .nil⟩) ?_ ?_
      · rintro j σ'' H4 hj ⟨e4, u6, xs4, ys4, rfl, hw4, dw4, hk4, dk4⟩
        rw [hr2] at hj
        have hj' : j < u.kids.length := by omega
        have hk : u.kids[j]? = some (u.kids[j]'hj') := List.getElem?_eq_getElem _
        generalize u.kids[j]'hj' = kd at hk
        have hd : u.kids.drop j = kd :: u.kids.drop (j + 1) := by
          obtain ⟨h1, h2⟩ := List.getElem?_eq_some_iff.mp hk
          rw [List.drop_eq_getElem_cons h1, h2]
        rw [hd, List.cons_append, waitF_cons] at dw4
        obtain ⟨ws, y, rfl, dws, dy⟩ := dw4.unsnoc
        have hlast : (ws ++ [y])[(ws ++ [y]).length - 1]? = some y := by
          rw [List.length_append, show ([y]).length = 1 from rfl, Nat.add_sub_cancel, List.getElem?_append_right (Nat.le_refl _), Nat.sub_self]
          rfl
        have hyl : ys4.length ≤ 2 := by
          have := dk4.length
          rw [List.length_map, List.length_take] at this
          omega
        refine ⟨_, rfl, .inl ⟨rfl, _, SqL.of hk4⟩, _, rfl, .inl ⟨rfl, _, SqL.of hw4⟩, lw, _, y, rfl, rfl, hw4, hlast, lk, ys4, y, rfl, rfl, by rw [upd_ne (Ne.symm hne)]; exact hk4, Nat.lt_of_le_of_lt hyl (by decide), ?_⟩
        have e5 : Ex H (upd H4 lw (.lst (ws ++ [y]).dropLast)) := Ex.mut e4 hwH
        have hk5 : (upd H4 lw (.lst (ws ++ [y]).dropLast)) lk = some (.lst ys4) := by rw [upd_ne (Ne.symm hne)]; exact hk4
        refine ⟨Ex.mut e5 hlkH, _, ws, ys4 ++ [y], rfl, ?_, ?_, upd_same, ?_⟩
        · rw [upd_ne hne, upd_same, List.dropLast_concat]
        · exact (dws.upd hw4 trivial).upd hk5 trivial
        · rw [Tr.take_snoc hk, List.map_append]
          exact ((dk4.append (.one dy)).upd hw4 trivial).upd hk5 trivial
      · rintro σ'' H4 ⟨e4, u6', xs4, ys4, rfl, hw4, dw4, hk4, dk4⟩
        rw [hr2, Int.toNat_natCast, List.take_length] at dk4
        rw [hr2, Int.toNat_natCast, List.drop_length, List.nil_append] at dw4
        refine ⟨_, rfl, .inl ⟨rfl, _, SqL.of hw4⟩, _, rfl, qm, am, rfl, _, rfl, _, rfl, lk, ys4, rfl, .inl ⟨sq_of hk4, fun tp htp => ?_⟩⟩
        have e5 : Ex H4 (upd H4 tp (.tup ys4)) := Ex.new htp
        refine ⟨(e4.trans e5) _ _ hq, hlead u (.ref tp) _ _ _ (e4.trans e5) hOu (.tup upd_same (dk4.ex e5)) fun x H6 e6 dx => ?_⟩
        have e46 := e5.trans e6
        have hw6 := e46 _ _ hw4
        refine ⟨lw, xs4, x, rfl, rfl, hw6, ?_, Ex.mut (e4.trans e46) hwH, _, _, _, xs4 ++ [x], rfl, upd_same, ?_, hi⟩
        · rw [dw4.length, waitF_len]
          exact Nat.lt_of_le_of_lt (show us.length ≤ 1000 by omega) (by decide)
        · rw [show t.size - (i + 1) = p' by omega, hu, waitF_cons]
          exact ((dw4.ex e46).append (.one dx)).upd hw6 trivial
    · rintro σ' H2 ⟨e2, u4, u5, u6, xs, rfl, hw2, dw2, _⟩
      rw [hlen, Nat.sub_self] at dw2
      have dw2 : Dts K MT H2 xs [foldT F t] := dw2
      cases dw2 with
      | cons h1 h2 =>
      cases h2
      exact ⟨_, rfl, lw, _, 0, _, rfl, rfl, SqL.of hw2, rfl, q _ H2 e2 h1⟩
end
end TH
set_option maxRecDepth 100000
set_option maxHeartbeats 4000000
namespace TH
open PySem L2 Evl
abbrev sIsRow : Stmt := top 8
abbrev sIsTree : Stmt := top 9
abbrev sCheck : Stmt := top 10
abbrev sSizes : Stmt := top 999999
def spIsRow (K : PySem.W.Frag) (C : Addr) : Sp := fun vs H Q _ => ∃ (p : Addr) (v : V) (S : List Sg) (ns : List Int), vs = [.ref p, v] ∧ BookAt C MF H p S ∧ KidsOk S ∧ Dt K MF H v (tupI ns) ∧ ∀ H', Ex H H' → Q (.bl (runB S 1 ns)) H'
section
variable {P : Program} {w : World} {K : PySem.W.Frag} {mg : Str → Option Value} {base : Heap} {C : Addr}
abbrev nIsRow : List Str := ["book", "row", "due", "sign"]
theorem scIsRow : FnScope nIsRow ["book", "row"] (defScope sIsRow) := ⟨rfl, rfl, rfl, by decide +kernel, rfl, by decide +kernel, by decide +kernel⟩
theorem ok_isrow {f : Addr} {fd : FuncData} (F : Fun K "is_row" "is_row" sIsRow f fd) (B : BookK P w K mg base C) (BH : OneM P w K mg base C "has" 1 ["self", "sign"] (spHas C)) : FnOk P w K mg base CX0 2 f fd ["book", "row"] (spIsRow K C) := by
  obtain ⟨T, _, ⟨f2, d2, m2, g2, b2⟩⟩ := B
  obtain ⟨f1, d1, m1, g1, b1⟩ := BH
  refine F.ok scIsRow (fun vs H Q E h => ?_) (fun cdv A outer s H vs Q E hr h => ?_)
  · obtain ⟨p, v, S, ns, rfl, _⟩ := h
    rfl
  · obtain ⟨p, v, S, ns, rfl, hB, hK, hv, q⟩ := h
    refine ⟨_, pss_cons (ps_set (i := 2) scIsRow.nd rfl (.inl rfl) pe_int)
      (pss_cons (ps_for PassesOwn.never rfl (pi_tup (pv 1)) (pg_name (i := 3) scIsRow.nd rfl (.inl rfl))
        (pss_cons (ps_if (PW.pt (pw_or (pt_cmpR op_eq (pv 2) pe_int (nomark _)) (pw_or1 (pt_not (pt_val (pe_meth (pv 0) T.cl m1 g1 hr b1 .nil pass0 (pa_cons (pv 3) pa_nil))))))) (pss_one (ps_ret pe_bl)) pss_nil)
        (pss_one (ps_set (i := 2) scIsRow.nd rfl (.inl rfl) (pe_op op_sub (pe_op op_add (pv 2) (pe_meth (pv 0) T.cl m2 g2 hr b2 .nil pass0 (pa_cons (pv 3) pa_nil))) pe_int)))))
      (pss_one (ps_ret (pe_cmpR op_eq (pv 2) pe_int (nomark _))))), ?_⟩
    obtain ⟨a, rfl, hS⟩ := dt_tup hv
    refine ⟨_, rfl, a, rfl, ⟨_, hS⟩, for_tup (K := K) (a := a) (xs := ns.map V.int) (fun i σ' H' => Ex H H' ∧ ∃ (d : Nat) (u : Option V), σ' = [some (.ref p), some (.ref a), some (.int (d : Int)), u] ∧ runB S 1 ns = runB S d (ns.drop i))
      ⟨Ex.refl H, 1, none, rfl, rfl⟩ (fun i σ' H' _ z => ex_t z.1 hS) ?_ ?_⟩
    · rintro i x σ' H1 hx ⟨e, d, u, rfl, hd⟩
      rw [List.getElem?_map] at hx
      cases hz : ns[i]? with
      | none =>
        rw [hz] at hx
        cases hx
      | some z =>
      rw [hz] at hx
      cases hx
      obtain ⟨hlt, ez⟩ := List.getElem?_eq_some_iff.mp hz
      have ed : ns.drop i = z :: ns.drop (i + 1) := by rw [List.drop_eq_getElem_cons hlt, ez]
      rw [ed, runB] at hd
      have hB1 := hB.ex e
      refine q_when (et_or (evt_test (K := K) (M := MF) (evd_eqI (evd_var rfl (.int (d : Int))) evd_int)) fun _ => evt_not (evt_B (K := K) (M := MF) (evd_has rfl hB1 (evd_var rfl (.int z))))) (fun hb H2 e2 => ?_) (fun hb H2 e2 => ?_)
      · rw [Bool.or_eq_true, Bool.not_eq_true', Bool.and_eq_false_iff, decide_eq_true_eq, decide_eq_false_iff_not, decide_eq_false_iff_not] at hb
        have hf : runB S 1 ns = false := by
          rw [hd]
          by_cases h0 : d = 0
          · rw [if_pos h0]
          · rw [if_neg h0, if_neg]
            omega
        have := q H2 (e.trans e2)
        rw [hf] at this
        exact this
      · rw [Bool.or_eq_false_iff, Bool.not_eq_false', Bool.and_eq_true, decide_eq_false_iff_not, decide_eq_true_eq, decide_eq_true_eq] at hb
        obtain ⟨h0, h1, h2⟩ := hb
        rw [if_neg (by omega), if_pos ⟨h1, h2⟩] at hd
        obtain ⟨j, rfl⟩ := Int.eq_ofNat_of_zero_le h1
        have hj : S[j]? = some (S[j]'(by omega)) := List.getElem?_eq_getElem _
        have hk := hK _ (List.mem_of_getElem? hj)
        refine s_asgP (K := K) (M := MF) (evd_sub (evd_add (evd_var rfl (.int (d : Int))) (evd_kids rfl (hB1.ex e2) (evd_var rfl (.int (j : Int))) rfl hj)) evd_int) fun v d' H3 e3 dv pd => ?_
        subst pd
        cases dv
        refine ⟨(e.trans e2).trans e3, d - 1 + ks S j, some (.int (j : Int)), ?_, hd⟩
        rw [ks_of hj]
        have hc : (d : Int) + (S[j]'(by omega)).2 - 1 = ((d - 1 + (S[j]'(by omega)).2.toNat : Nat) : Int) := by omega
        exact congrArg (fun z => [some (V.ref p), some (V.ref a), some (V.int z), some (V.int (j : Int))]) hc
    · rintro σ' H1 ⟨e, d, u, rfl, hd⟩
      rw [List.length_map, List.drop_length, runB] at hd
      refine s_retP (K := K) (M := MF) (evd_eqI (evd_var rfl (.int (d : Int))) evd_int) fun v d' H3 e3 dv pd => ?_
      subst pd
      cases dv
      have := q H3 (e.trans e3)
      rw [hd] at this
      have e0 : decide (d = 0) = decide ((d : Int) = 0) := by
        by_cases h : d = 0
        · rw [decide_eq_true h, decide_eq_true (by omega)]
        · rw [decide_eq_false h, decide_eq_false (by omega)]
      rw [e0] at this
      exact this
end
end TH
set_option maxRecDepth 100000
set_option maxHeartbeats 4000000
namespace TH
open PySem L2 Evl
def spIsTree (K : PySem.W.Frag) (C : Addr) : Sp := fun vs H Q _ => ∃ (p : Addr) (v : V) (S : List Sg) (ns : List Int), vs = [.ref p, v] ∧ BookAt C MF H p S ∧ KidsOk S ∧ Dt K MF H v (tupI ns) ∧ ∀ H', Ex H H' → Q (.bl (treeB S ns)) H'
def spCheck (K : PySem.W.Frag) (C CT : Addr) : Sp := fun vs H Q E => ∃ (p : Addr) (v : V) (S : List Sg) (ns : List Int), vs = [.ref p, v] ∧ BookAt C MF H p S ∧ KidsOk S ∧ Dt K MF H v (tupI ns) ∧
  (treeB S ns = true → ∀ H', Ex H H' → Q .non H') ∧ (treeB S ns = false → ∀ H', Ex H H' → E (.ref CT) none H')
section
variable {P : Program} {w : World} {K : PySem.W.Frag} {mg : Str → Option Value} {base : Heap} {C : Addr}
theorem scIsTree : FnScope ["book", "tree"] ["book", "tree"] (defScope sIsTree) := ⟨rfl, rfl, rfl, by decide +kernel, rfl, by decide +kernel, by decide +kernel⟩
theorem ok_istree {f : Addr} {fd : FuncData} (F : Fun K "is_tree" "is_tree" sIsTree f fd) (G : Glob mg) (GR : GlobR mg) (B : OneF P w K mg base "is_row" 2 ["book", "row"] (spIsRow K C)) : FnOk P w K mg base CX0 3 f fd ["book", "tree"] (spIsTree K C) := by
  obtain ⟨f1, d1, m1, k1, g1, b1⟩ := B
  obtain ⟨t, hL⟩ := GR.mostT
  refine F.ok scIsTree (fun vs H Q E h => ?_) (fun cdv A outer s H vs Q E hr h => ?_)
  · obtain ⟨p, v, S, ns, rfl, _⟩ := h
    rfl
  · obtain ⟨p, v, S, ns, rfl, hB, hK, hv, q⟩ := h
    refine ⟨_, pss_one (ps_ret (pe_and (pe_cmpR op_le (pe_callB call_len_seq (by rfl) G.len PySem.boot_len (pa_cons (pv 1) pa_nil)) (pe_glob rfl hL (show RelV (.int 40) _ from ⟨_, rfl⟩)) (nomark _)) (pe_one (pe_call g1 hr rfl m1 k1 b1 .nil pass0 (pa_cons (pv 0) (pa_cons (pv 1) pa_nil)))))), ?_⟩
    obtain ⟨a, rfl, hS⟩ := dt_tup hv
    refine ⟨_, rfl, a, _, rfl, .inr hS, _, _, rfl, rfl, _, rfl, ?_⟩
    rw [List.length_map]
    by_cases h : (ns.length : Int) ≤ 40
    · rw [decide_eq_true h]
      refine iteT ⟨_, rfl, _, rfl, p, .ref a, S, ns, rfl, hB, hK, hv, fun H' e => ?_⟩
      have := q H' e
      unfold treeB at this
      rw [decide_eq_true h] at this
      exact this
    · rw [decide_eq_false h]
      refine iteF ?_
      have := q H (Ex.refl _)
      unfold treeB at this
      rw [decide_eq_false h] at this
      exact this
theorem scCheck : FnScope ["book", "tree"] ["book", "tree"] (defScope sCheck) := ⟨rfl, rfl, rfl, by decide +kernel, rfl, by decide +kernel, by decide +kernel⟩
theorem ok_check {f CT : Addr} {fd : FuncData} (F : Fun K "check_tree" "check_tree" sCheck f fd) (TN : ExcT K mg "NoTree" CT) (B : OneF P w K mg base "is_tree" 3 ["book", "tree"] (spIsTree K C)) : FnOk P w K mg base (L2.CX P w) 4 f fd ["book", "tree"] (spCheck K C CT) := by
  obtain ⟨f1, d1, m1, k1, g1, b1⟩ := B
  refine F.okX scCheck (fun vs H Q E h => ?_) (fun cdv A outer s H vs Q E hr h => ?_)
  · obtain ⟨p, v, S, ns, rfl, _⟩ := h
    rfl
  · obtain ⟨p, v, S, ns, rfl, hB, hK, hv, qy, qn⟩ := h
    refine ⟨_, pss_one (ps_if (pt_not (pt_val (pe_call g1 hr rfl m1 k1 b1 .nil pass0 (pa_cons (pv 0) (pa_cons (pv 1) pa_nil))))) (pss_one (ps_raise rfl (takes_of rfl rfl rfl rfl) (pmk_own PySem.F.excBase_ValueError TN.x TN.g TN.k (raises_own TN.b TN.t) rfl))) pss_nil), ?_⟩
    refine ⟨_, rfl, _, rfl, p, v, S, ns, rfl, hB, hK, hv, fun H' e => ⟨_, rfl, ?_⟩⟩
    cases h : treeB S ns with
    | true => exact iteF (qy h H' e)
    | false => exact iteT (qn h H' e)
end
/-- a def that may raise -/
def OneX (P : Program) (w : World) (K : PySem.W.Frag) (mg : Str → Option Value) (base : Heap) (x : Str) (k : Nat) (ps : List Str) (sp : Sp) : Prop :=
  ∃ (f : Addr) (fd : FuncData), mg x = some (.ref f) ∧ PySem.W.keepIn K (.ref f) = true ∧ FnOk P w K mg base (L2.CX P w) k f fd ps sp ∧ Binds K fd ps []
def OneMX (P : Program) (w : World) (K : PySem.W.Frag) (mg : Str → Option Value) (base : Heap) (C : Addr) (m : Str) (k : Nat) (ps : List Str) (sp : Sp) : Prop :=
  ∃ (f : Addr) (fd : FuncData), Meth K C m f ∧ FnOk P w K mg base (L2.CX P w) k f fd ps sp ∧ Binds K fd ps []
end TH
set_option maxRecDepth 100000
set_option maxHeartbeats 4000000
namespace TH
open PySem L2 Evl RZ
abbrev sIsRule : Stmt := top 17
abbrev sIsFit : Stmt := top 18
abbrev sGInit : Stmt := inClass (top 19) 0
abbrev sGLead : Stmt := inClass (top 19) 1
abbrev sGOne : Stmt := inClass (top 19) 2
abbrev sGOf : Stmt := inClass (top 19) 3
abbrev sGLikes : Stmt := inClass (top 19) 4
/-! ### guessers -/
abbrev Ru := Nat × List Nat × Nat
abbrev RuI := Int × List Int × Int
def ruI (r : RuI) : PyData := .tuple [.int r.1, tupI r.2.1, .int r.2.2]
def toI (r : Ru) : RuI := ((r.1 : Int), ofN r.2.1, (r.2.2 : Int))
def ruD (r : Ru) : PyData := ruI (toI r)
structure Gp where
  moods : Nat
  rules : List Ru
  liked : List Nat
def guD (G : Gp) : PyData := .tuple [.int (G.moods : Int), .list (G.rules.map ruD), intsD G.liked]
structure GoodG (S : List Sg) (G : Gp) : Prop where
  m1 : 1 ≤ G.moods
  m5 : G.moods ≤ 5
  r1 : 1 ≤ G.rules.length
  r30 : G.rules.length ≤ 30
  rule : ∀ r ∈ G.rules, r.1 < S.length ∧ r.2.1.length = ks S r.1 ∧ (∀ x ∈ r.2.1, x < G.moods) ∧ r.2.2 < G.moods
  lik : G.liked.Pairwise (· < ·)
  likm : ∀ m ∈ G.liked, m < G.moods
def fitsB (w : List Nat) (k : List (List Nat)) : Bool := (w.zip k).all fun p => decide (p.1 ∈ p.2)
def gruns (s : Nat) (k : List (List Nat)) (r : Ru) : Bool := decide (r.1 = s) && fitsB r.2.1 k
/-- the moods to which a sign may lead, rising -/
def gleadN (G : Gp) (s : Nat) (k : List (List Nat)) : List Nat := (List.range G.moods).filter fun m => G.rules.any fun r => gruns s k r && decide (r.2.2 = m)
def gmoods (G : Gp) : Tr → List Nat
  | .n0 s => gleadN G s []
  | .n1 s t => gleadN G s [gmoods G t]
  | .n2 s t u => gleadN G s [gmoods G t, gmoods G u]
theorem gmoods_eq (G : Gp) (t : Tr) : gmoods G t = gleadN G t.root (t.kids.map (gmoods G)) := by
  cases t <;> rfl
theorem glead_rise (G : Gp) (s : Nat) (k : List (List Nat)) : (gleadN G s k).Pairwise (· < ·) := List.Pairwise.filter _ List.pairwise_lt_range
theorem glead_lt {G : Gp} {s : Nat} {k : List (List Nat)} {m : Nat} (h : m ∈ gleadN G s k) : m < G.moods := List.mem_range.mp (List.mem_filter.mp h).1
theorem glead_len (G : Gp) (s : Nat) (k : List (List Nat)) : (gleadN G s k).length ≤ G.moods := by
  have := List.length_filter_le (fun m => G.rules.any fun r => gruns s k r && decide (r.2.2 = m)) (List.range G.moods)
  rw [List.length_range] at this
  exact this
theorem gmoods_len (G : Gp) (t : Tr) : (gmoods G t).length ≤ G.moods := by
  rw [gmoods_eq]
  exact glead_len _ _ _
theorem rise_one {as bs : List Int} (h1 : as.Pairwise (· < ·)) (h2 : bs.Pairwise (· < ·)) (h : ∀ k, k ∈ as ↔ k ∈ bs) : as = bs := by
  induction as generalizing bs with
  | nil =>
    cases bs with
    | nil => rfl
    | cons b bs => exact absurd ((h b).mpr List.mem_cons_self) (fun z => by cases z)
  | cons a as ih =>
    cases bs with
    | nil => exact absurd ((h a).mp List.mem_cons_self) (fun z => by cases z)
    | cons b bs =>
      obtain ⟨a1, a2⟩ := List.pairwise_cons.mp h1
      obtain ⟨b1, b2⟩ := List.pairwise_cons.mp h2
      have e : a = b := by
        rcases List.mem_cons.mp ((h a).mp List.mem_cons_self) with e | e
        · exact e
        · rcases List.mem_cons.mp ((h b).mpr List.mem_cons_self) with e2 | e2
          · exact e2.symm
          · have := b1 a e
            have := a1 b e2
            omega
      subst e
      rw [ih a2 b2 fun k => ?_]
      constructor
      · intro hk
        rcases List.mem_cons.mp ((h k).mp (List.mem_cons_of_mem _ hk)) with e | e
        · have := a1 k hk
          omega
        · exact e
      · intro hk
        rcases List.mem_cons.mp ((h k).mpr (List.mem_cons_of_mem _ hk)) with e | e
        · have := b1 k hk
          omega
        · exact e
theorem ofN_rise {r : List Nat} (h : r.Pairwise (· < ·)) : (ofN r).Pairwise (· < ·) := by
  unfold ofN
  exact List.Pairwise.map _ (fun a b h => by omega) h
theorem mem_ofN {k : Int} {r : List Nat} : k ∈ ofN r ↔ ∃ x ∈ r, (x : Int) = k := by
  unfold ofN
  rw [List.mem_map]
/-- the numbers of the rules that fit are just these -/
theorem glead_of {S : List Sg} {G : Gp} (g : GoodG S G) {s : Nat} {k : List (List Nat)} {ns : List Int} (h1 : ns.Pairwise (· < ·)) (h2 : ∀ m, m ∈ ns ↔ ∃ r ∈ G.rules, gruns s k r = true ∧ (r.2.2 : Int) = m) : ns = ofN (gleadN G s k) := by
  refine rise_one h1 (ofN_rise (glead_rise G s k)) fun m => ?_
  rw [h2, mem_ofN]
  constructor
  · rintro ⟨r, hr, h3, rfl⟩
    refine ⟨r.2.2, List.mem_filter.mpr ⟨List.mem_range.mpr (g.rule r hr).2.2.2, ?_⟩, rfl⟩
    rw [List.any_eq_true]
    exact ⟨r, hr, by rw [h3, decide_eq_true rfl]; rfl⟩
  · rintro ⟨x, hx, rfl⟩
    obtain ⟨_, h3⟩ := List.mem_filter.mp hx
    obtain ⟨r, hr, h4⟩ := List.any_eq_true.mp h3
    rw [Bool.and_eq_true, decide_eq_true_eq] at h4
    exact ⟨r, hr, h4.1, by rw [h4.2]⟩
/-! ### a Guesser in the heap -/
def gflds (pb lr ll : Addr) : List (Str × V) := putF "_liked" (.ref ll) (putF "_rules" (.ref lr) (putF "_book" (.ref pb) []))
section
variable (pb lr ll : Addr)
theorem gflds_book : (gflds pb lr ll).lookup ("_book" : Str) = some (.ref pb) := by
  unfold gflds
  rw [lookup_putF, if_neg (by decide +kernel), lookup_putF, if_neg (by decide +kernel), lookup_putF, if_pos rfl]
theorem gflds_rules : (gflds pb lr ll).lookup ("_rules" : Str) = some (.ref lr) := by
  unfold gflds
  rw [lookup_putF, if_neg (by decide +kernel), lookup_putF, if_pos rfl]
theorem gflds_liked : (gflds pb lr ll).lookup ("_liked" : Str) = some (.ref ll) := by
  unfold gflds
  rw [lookup_putF, if_pos rfl]
theorem gflds_no {x : Str} (h1 : ¬ x = "_liked") (h2 : ¬ x = "_rules") (h4 : ¬ x = "_book") : (gflds pb lr ll).lookup x = none := by
  unfold gflds
  rw [lookup_putF, if_neg h1, lookup_putF, if_neg h2, lookup_putF, if_neg h4]
  rfl
end
def GuessAt (K : PySem.W.Frag) (CB CG : Addr) (M : Addr → Prop) (H : Hp) (p : Addr) (S : List Sg) (G : Gp) : Prop :=
  ∃ dx pb lr ll, H p = some (.ins CG dx (gflds pb lr ll)) ∧ BookAt CB M H pb S ∧ Dt K M H (.ref lr) (.list (G.rules.map ruD)) ∧ Dt K M H (.ref ll) (intsD G.liked)
section
variable {K : PySem.W.Frag} {M M' : Addr → Prop} {H H' : Hp} {CB CG p : Addr} {S : List Sg} {G : Gp}
theorem GuessAt.ex (h : GuessAt K CB CG M H p S G) (e : Ex H H') : GuessAt K CB CG M H' p S G := by
  obtain ⟨dx, pb, lt, ll, h1, h2, h3, h4⟩ := h
  exact ⟨dx, pb, lt, ll, e _ _ h1, h2.ex e, h3.ex e, h4.ex e⟩
theorem GuessAt.weak (h : GuessAt K CB CG M H p S G) (m : ∀ a, M' a → M a) : GuessAt K CB CG M' H p S G := by
  obtain ⟨dx, pb, lt, ll, h1, h2, h3, h4⟩ := h
  exact ⟨dx, pb, lt, ll, h1, h2.weak m, h3.weak m, h4.weak m⟩
theorem GuessAt.upd {l : Addr} {ys : List V} {o : HO} (h : GuessAt K CB CG M H p S G) (hl : H l = some (.lst ys)) (m : M l) : GuessAt K CB CG M (L2.upd H l o) p S G := by
  obtain ⟨dx, pb, lt, ll, h1, h2, h3, h4⟩ := h
  refine ⟨dx, pb, lt, ll, ?_, h2.upd hl m, h3.upd hl m, h4.upd hl m⟩
  rw [upd_ne (ne_of h1 hl (by intro z; cases z))]
  exact h1
theorem GuessAt.ch (h : GuessAt K CB CG M H p S G) (c : ChM M H H') : GuessAt K CB CG M H' p S G := by
  obtain ⟨dx, pb, lt, ll, h1, h2, h3, h4⟩ := h
  exact ⟨dx, pb, lt, ll, c.at h1 (fun _ z => by cases z), h2.ch c, h3.ch c, h4.ch c⟩
theorem GuessAt.avoid (h : GuessAt K CB CG M H p S G) (n : ∀ a, M' a → M a ∨ H a = none) : GuessAt K CB CG M' H p S G := by
  obtain ⟨dx, pb, lt, ll, h1, h2, h3, h4⟩ := h
  exact ⟨dx, pb, lt, ll, h1, h2.avoid n, h3.avoid n, h4.avoid n⟩
theorem GuessAt.ins (h : GuessAt K CB CG M H p S G) : ∃ dx pb lr ll, H p = some (.ins CG dx (gflds pb lr ll)) := by
  obtain ⟨dx, pb, lt, ll, h1, _⟩ := h
  exact ⟨dx, pb, lt, ll, h1⟩
end
structure GuesserT (K : PySem.W.Frag) (mg : Str → Option Value) (C : Addr) : Prop where
  cl : Cls K C
  n1 : NoAttr K C "_book"
  n2 : NoAttr K C "_rules"
  n3 : NoAttr K C "_liked"
  g : mg "Guesser" = some (.ref C)
structure GlobE (mg : Str → Option Value) : Prop where
  zip : mg "zip" = none
  sorted : mg "sorted" = none
  mostM : ∃ t, mg "MOST_MOODS" = some (.int 5 t)
  mostR : ∃ t, mg "MOST_RULES" = some (.int 30 t)
/-! ### is_fitting, is_rule -/
def kidsD (k : List (List Nat)) : PyData := .tuple (k.map fun m => tupI (ofN m))
def spIsFit (K : PySem.W.Frag) : Sp := fun vs H Q _ => ∃ (M : Addr → Prop) (v z : V) (w : List Nat) (k : List (List Nat)), vs = [v, z] ∧ Ok M H ∧ Dt K M H v (tupI (ofN w)) ∧ Dt K M H z (kidsD k) ∧ w.length ≤ 1000 ∧ ∀ H', Ex H H' → Q (.bl (fitsB w k)) H'
def ruleB (S : List Sg) (m : Int) (r : RuI) : Bool := (decide (0 ≤ r.1) && decide (r.1 < (S.length : Int))) && (decide ((r.2.1.length : Int) = ((ks S r.1.toNat : Nat) : Int)) && (r.2.1 ++ [r.2.2]).all fun x => decide (0 ≤ x) && decide (x < m))
def spIsRule (K : PySem.W.Frag) (CB : Addr) : Sp := fun vs H Q _ => ∃ (M Mb : Addr → Prop) (pb : Addr) (v : V) (S : List Sg) (m : Int) (r : RuI), vs = [.ref pb, .int m, v] ∧ BookAt CB Mb H pb S ∧ KidsOk S ∧ Ok M H ∧ Dt K M H v (ruI r) ∧ r.2.1.length ≤ 1000 ∧ ∀ H', Ex H H' → Q (.bl (ruleB S m r)) H'
theorem inV_nums (z : Nat) (ys : List Nat) : inV (.int (z : Int)) (nums ys) = decide (z ∈ ys) := by
  rw [← nums_of, inV_int]
  have : ((z : Int) ∈ ofN ys) ↔ z ∈ ys := by
    rw [mem_ofN]
    constructor
    · rintro ⟨x, hx, e⟩
      have : x = z := by omega
      rw [← this]
      exact hx
    · intro h
      exact ⟨_, h, rfl⟩
  by_cases h : z ∈ ys
  · rw [decide_eq_true h, decide_eq_true (this.mpr h)]
  · rw [decide_eq_false h, decide_eq_false (fun q => h (this.mp q))]
section
variable {K : PySem.W.Frag} {M M' : Addr → Prop} {H H1 H' : Hp} {σ : L2.St} {ta tb te : TE} {S : List Sg}
/-- in, of numbers in a tuple, in a list -/
theorem evd_inT {z : Nat} {ys : List Nat} (ha : EvD K M ta σ H (.int (z : Int))) (hb : EvD K M tb σ H (tupI (ofN ys))) : EvD K M (tOp (rIn K false) ta tb) σ H (.bool (decide (z ∈ ys))) :=
  evp_op ha hb fun x y a b H1 e dx dy px py Q q => by
    subst px py
    cases dx
    obtain ⟨t, rfl, ht⟩ := dt_tupN dy
    refine ⟨_, _, rfl, .inr ht, rfl, by rw [← nums_of]; exact flat_ints _, ?_⟩
    rw [inV_nums]
    exact q _ _ H1 (Ex.refl _) (.bl _) rfl
theorem evd_inL {z : Nat} {ys : List Nat} (ha : EvD K M ta σ H (.int (z : Int))) (hb : EvD K M tb σ H (intsD ys)) : EvD K M (tOp (rIn K false) ta tb) σ H (.bool (decide (z ∈ ys))) :=
  evp_op ha hb fun x y a b H1 e dx dy px py Q q => by
    subst px py
    cases dx
    obtain ⟨t, rfl, ht, _⟩ := dt_listN dy
    refine ⟨_, _, rfl, .inl (sq_of ht), rfl, by rw [← nums_of]; exact flat_ints _, ?_⟩
    rw [inV_nums]
    exact q _ _ H1 (Ex.refl _) (.bl _) rfl
/-- a new pair's two data -/
theorem sq_pair {T : Addr} {x y : V} (h : H T = some (.tup [x, y])) : SqT K H T [x, y] := SqT.of h
end
section
variable {P : Program} {w : World} {K : PySem.W.Frag} {mg : Str → Option Value} {base : Heap} {CB CG CN CT : Addr}
abbrev nIsFit : List Str := ["wanted", "kids", "mood", "moods"]
theorem scIsFit : FnScope nIsFit ["wanted", "kids"] (defScope sIsFit) := ⟨rfl, rfl, rfl, by decide +kernel, rfl, by decide +kernel, by decide +kernel⟩
theorem ok_isfit {f : Addr} {fd : FuncData} (F : Fun K "is_fitting" "is_fitting" sIsFit f fd) (G : GlobS mg) (GE : GlobE mg) : FnOk P w K mg base CX0 1 f fd ["wanted", "kids"] (spIsFit K) := by
  refine F.ok scIsFit (fun vs H Q E h => ?_) (fun cdv A outer s0 H vs Q E hr h => ?_)
  · obtain ⟨M, v, z, w, k, rfl, _⟩ := h
    rfl
  · obtain ⟨M, v, z, wn, k, rfl, ok, hv, hz, hl, q⟩ := h
    refine ⟨_, (pss_one (ps_ret (pe_callB (cr_all rfl) (by rfl) G.all (by decide +kernel) (pa_cons (pe_lc (own := [("mood", 2), ("moods", 3)]) (tt := tYes) rfl scIsFit.nd (pi_zipA (by rfl) GE.zip (pa_cons (pv 0) (pa_cons (pv 1) pa_nil)))
      (blkOk_by (N := nIsFit) (sc := defScope sIsFit) (by decide +kernel)) (fun _ _ _ _ _ => pg_tupK (K := K) (n := 2) rfl rfl (pgs_cons (pg_name (i := 2) scIsFit.nd rfl (.inl rfl)) (pgs_cons (pg_name (i := 3) scIsFit.nd rfl (.inl rfl)) pgs_nil))) (fun _ _ _ _ _ => pts_nil)
      (fun _ _ _ _ _ => pe_cmpR (op_in_seqK (K := K) rfl) (pv 2) (pv 3) (by rfl))) pa_nil)))), ?_⟩
    refine s_retP (K := K) (M := M) (evd_all (bs := (wn.zip k).map fun p => decide (p.1 ∈ p.2)) (eva_cons ?_ eva_nil)) fun x d H1 e1 dx pd => ?_
    · refine ((evn_lcZT (bs := wn) (cs := k) (fun (s : Nat) => .int (s : Int)) (fun m => tupI (ofN m)) (fun _ _ => true) (fun m ms => .bool (decide (m ∈ ms))) ok (evd_var (i := 0) (d := tupI (ofN wn)) rfl hv |>.mono fun d h => ?_) (evd_var (i := 1) rfl hz) (Nat.lt_of_le_of_lt hl (by decide)) fun M' i b c x y T H' hM ok' hb hc e dx dy hT Qg qg => ?_).data ok).mono fun d hd => ?_
      · rw [h]
        unfold tupI ofN
        rw [List.map_map]
        rfl
      · exact ⟨_, _, rfl, SqT.of hT, rfl, _, _, rfl, _, _, rfl, rfl, qg _ H' (Ex.refl _) ⟨rfl, evt_yes, fun _ => evd_inT (evd_var (i := 2) rfl dx) (evd_var (i := 3) rfl dy)⟩⟩
      · obtain ⟨ds, rfl, rfl⟩ := hd
        rw [filter_all, List.map_map]
        rfl
    · subst pd
      cases dx
      have := q H1 e1
      unfold fitsB at this
      rw [List.all_map]
      exact this
abbrev nIsRule : List Str := ["book", "moods", "rule", "mood"]
theorem scIsRule : FnScope nIsRule ["book", "moods", "rule"] (defScope sIsRule) := ⟨rfl, rfl, rfl, by decide +kernel, rfl, by decide +kernel, by decide +kernel⟩
theorem ok_isrule {f : Addr} {fd : FuncData} (F : Fun K "is_rule" "is_rule" sIsRule f fd) (G : GlobS mg) (BK : BookK P w K mg base CB) : FnOk P w K mg base CX0 2 f fd ["book", "moods", "rule"] (spIsRule K CB) := by
  obtain ⟨T, ⟨f2, d2, m2, g2, b2⟩, ⟨f3, d3, m3, g3, b3⟩⟩ := BK
  refine F.ok scIsRule (fun vs H Q E h => ?_) (fun cdv A outer s0 H vs Q E hr h => ?_)
  · obtain ⟨M, Mb, pb, v, S, m, r, rfl, _⟩ := h
    rfl
  · obtain ⟨M, Mb, pb, v, S, m, r, rfl, hB, hK, ok, hv, hl, q⟩ := h
    refine ⟨_, (pss_cons (ps_if (PW.pt (pw_or (pt_cmpR op_ne (pe_callB call_len_seq (by rfl) G.len PySem.boot_len (pa_cons (pv 2) pa_nil)) pe_int (nomark _)) (pw_or1 (pt_not (pt_chain op_le op_lt pe_int (pe_ix ix_tup (pv 2) pe_int (fun _ _ => rfl)) (pe_meth0 (pv 0) T.cl m2 g2 hr b2 .nil pass0)))))) (pss_one (ps_ret pe_bl)) pss_nil)
      (pss_cons (ps_if (pt_cmpR op_ne (pe_callB call_len_seq (by rfl) G.len PySem.boot_len (pa_cons (pe_ix ix_tup (pv 2) pe_int (fun _ _ => rfl)) pa_nil)) (pe_meth (pv 0) T.cl m3 g3 hr b3 .nil pass0 (pa_cons (pe_ix ix_tup (pv 2) pe_int (fun _ _ => rfl)) pa_nil)) (nomark _)) (pss_one (ps_ret pe_bl)) pss_nil)
      (pss_one (ps_ret (pe_callB (cr_all rfl) (by rfl) G.all (by decide +kernel) (pa_cons (pe_lc (own := [("mood", 3)]) (g := gName 3) (tt := tYes) rfl scIsRule.nd (pi_tup (pe_op op_catA (pe_ix ix_tup (pv 2) pe_int (fun _ _ => rfl)) (pe_tup (pa_cons (pe_ix ix_tup (pv 2) pe_int (fun _ _ => rfl)) pa_nil))))
      (blkOk_by (N := nIsRule) (sc := defScope sIsRule) (by decide +kernel)) (fun _ _ _ _ _ => pg_name (i := 3) scIsRule.nd rfl (.inl rfl)) (fun _ _ _ _ _ => pts_nil)
      (fun _ _ _ _ _ => pe_chain op_le op_lt pe_int (pv 3) (pv 1))) pa_nil)))))), ?_⟩
    have hvr : ∀ {H'}, Ex H H' → EvD K M (tVar 2) (start nIsRule [.ref pb, .int m, v]) H' (ruI r) := fun e => evd_var (i := 2) rfl (hv.ex e)
    have fst : ∀ {H'}, Ex H H' → EvD K M (tOp (rIxT K) (tVar 2) (tC (.int 0))) (start nIsRule [.ref pb, .int m, v]) H' (.int r.1) := fun e => evd_ixT (j := 0) (ds := [.int r.1, tupI r.2.1, .int r.2.2]) (hvr e) evd_int rfl rfl
    have snd : ∀ {H'}, Ex H H' → EvD K M (tOp (rIxT K) (tVar 2) (tC (.int 1))) (start nIsRule [.ref pb, .int m, v]) H' (tupI r.2.1) := fun e => evd_ixT (j := 1) (ds := [.int r.1, tupI r.2.1, .int r.2.2]) (hvr e) evd_int rfl rfl
    refine q_when (b := !(decide (0 ≤ r.1) && decide (r.1 < (S.length : Int)))) (evt_or2 (et_is (evt_test (K := K) (M := M) (evd_neI (evd_lenT (es := [.int r.1, tupI r.2.1, .int r.2.2]) (eva_cons (hvr (Ex.refl _)) eva_nil)) evd_int)) rfl) (evt_not (evt_test (K := K) (M := M) (evd_chainI (g := fun i j => decide (i ≤ j)) (g' := fun i j => decide (i < j)) evd_int (fst (Ex.refl _)) (evd_many (i := 0) rfl hB))))) (fun hb H1 e1 => ?_) (fun hb H1 e1 => ?_)
    · have := q H1 e1
      unfold ruleB at this
      rw [Bool.not_eq_true'] at hb
      rw [hb] at this
      exact this
    rw [Bool.not_eq_false'] at hb
    obtain ⟨r0, r1⟩ : 0 ≤ r.1 ∧ r.1 < (S.length : Int) := by
      rw [Bool.and_eq_true, decide_eq_true_eq, decide_eq_true_eq] at hb
      exact hb
    have hj : S[r.1.toNat]? = some (S[r.1.toNat]'(by omega)) := List.getElem?_eq_getElem _
    have hkk := hK _ (List.mem_of_getElem? hj)
    have ekn : ((S[r.1.toNat]'(by omega)).2 : Int) = ((ks S r.1.toNat : Nat) : Int) := by rw [ks_of hj, Int.toNat_of_nonneg hkk.1]
    refine q_when (evt_test (K := K) (M := M) (evd_neI (i := (r.2.1.length : Int)) (j := ((ks S r.1.toNat : Nat) : Int)) ((evd_lenT (es := r.2.1.map PyData.int) (eva_cons (snd e1) eva_nil)).mono fun d h => by rw [h, List.length_map]) ((evd_kids (S := S) (j := r.1.toNat) (i := 0) rfl (hB.ex e1) (fst e1) (by omega) hj).mono fun d h => by rw [h, ekn]))) (fun hb2 H2 e2 => ?_) (fun hb2 H2 e2 => ?_)
    · have := q H2 (e1.trans e2)
      unfold ruleB at this
      rw [Bool.not_eq_true'] at hb2
      rw [hb, hb2] at this
      exact this
    rw [Bool.not_eq_false'] at hb2
    have e12 := e1.trans e2
    have ok2 := ok.ex e12
    refine s_retP (K := K) (M := M) (evd_all (bs := (r.2.1 ++ [r.2.2]).map fun x => decide (0 ≤ x) && decide (x < m)) (eva_cons ?_ eva_nil)) fun x d H3 e3 dx pd => ?_
    · refine ((evn_lcTM (bs := r.2.1 ++ [r.2.2]) PyData.int (fun x => .bool (decide (0 ≤ x) && decide (x < m))) ok2 ((evd_catA (ds := r.2.1.map PyData.int) (es := [.int r.2.2]) (snd e12) (evd_tup (eva_cons (evd_ixT (j := 2) (ds := [.int r.1, tupI r.2.1, .int r.2.2]) (hvr e12) evd_int rfl rfl) eva_nil) (by show 1 ≤ sizeLine; decide)) ?_).mono fun d h => ?_) ?_ fun M' b x H' hM ok' hb e dx Qg qg => ?_).data ok2).mono fun d hd => ?_
      · rw [List.length_map]
        show r.2.1.length + 1 ≤ 100000
        omega
      · rw [h, List.map_append]
        rfl
      · rw [List.length_append]
        exact Nat.lt_of_le_of_lt (show r.2.1.length + 1 ≤ 1001 by omega) (by decide)
      · exact qg _ H' (Ex.refl _) ⟨rfl, evt_yes, fun _ => evd_chainI (g := fun i j => decide (i ≤ j)) (g' := fun i j => decide (i < j)) evd_int (evd_var (i := 3) rfl dx) (evd_var (i := 1) rfl (.int m))⟩
      · obtain ⟨ds, rfl, rfl⟩ := hd
        rw [List.map_map]
        rfl
    · subst pd
      cases dx
      have := q H3 (e12.trans e3)
      unfold ruleB at this
      rw [hb, hb2] at this
      rw [List.all_map]
      exact this
end
end TH
set_option maxRecDepth 100000
set_option maxHeartbeats 4000000
namespace TH
open PySem L2 Evl RZ
/-! ### a Guesser is made -/
def KeptG (K : PySem.W.Frag) (CG : Addr) (H H' : Hp) (p pb : Addr) (rules : List RuI) (ls : List Int) : Prop :=
  ∃ dx lr ll, H' p = some (.ins CG dx (gflds pb lr ll)) ∧ NewD K H H' (.ref lr) (.list (rules.map ruI)) ∧ NewD K H H' (.ref ll) (listI ls) ∧ ∀ b o, H b = some o → b ≠ p → H' b = some o
def gokB (S : List Sg) (m : Int) (rules : List RuI) (ls : List Int) : Bool := (decide (1 ≤ m) && decide (m ≤ 5)) && ((decide (1 ≤ (rules.length : Int)) && decide ((rules.length : Int) ≤ 30)) && (rules.all (ruleB S m) && likB m (-1) ls))
def spGInit (K : PySem.W.Frag) (CB CG CN : Addr) : Sp := fun vs H Q E => ∃ (M Mb : Addr → Prop) (p pb dx : Addr) (vr vl : V) (S : List Sg) (m : Int) (rules : List RuI) (ls : List Int), vs = [.ref p, .ref pb, .int m, vr, vl] ∧ H p = some (.ins CG dx []) ∧ KidsOk S ∧ Ok M H ∧ BookAt CB Mb H pb S ∧
  Dt K M H vr (.list (rules.map ruI)) ∧ Dt K M H vl (listI ls) ∧ rules.length ≤ 1000 ∧ (∀ r ∈ rules, r.2.1.length ≤ 1000) ∧
  (gokB S m rules ls = true → ∀ H', KeptG K CG H H' p pb rules ls → Q .non H') ∧ (gokB S m rules ls = false → ∀ H', Ex H H' → E (.ref CN) none H')
theorem ruI_flat {K : PySem.W.Frag} {M M' : Addr → Prop} {H : Hp} {v : V} {r : RuI} (h : Dt K M H v (ruI r)) : Dt K M' H v (ruI r) := by
  unfold ruI at h
  cases h with
  | tup h1 h2 =>
  cases h2 with
  | cons r1 h2 =>
  cases r1
  cases h2 with
  | cons r2 h2 =>
  cases h2 with
  | cons r3 h2 =>
  cases r3
  cases h2
  exact .tup h1 (.cons (.int _) (.cons (dt_any r2) (.cons (.int _) .nil)))
theorem rules_flat {K : PySem.W.Frag} {M M' : Addr → Prop} {H : Hp} : ∀ {rs : List RuI} {vs : List V}, Dts K M H vs (rs.map ruI) → Dts K M' H vs (rs.map ruI)
  | [], _, .nil => .nil
  | r :: rs, _, .cons h t => .cons (ruI_flat h) (rules_flat t)
section
variable {K : PySem.W.Frag} {M N : Addr → Prop} {H : Hp} {σ : L2.St}
/-- list(..) of rules: new -/
theorem evd_rulesNew {ta : TA} {rs : List RuI} (ok : Ok N H) (h : EvDA K M ta σ H [.list (rs.map ruI)]) : EvD K N (tCB (fun xs H Q => ∃ p ys, xs = [.ref p] ∧ (SqL K H p ys ∨ SqT K H p ys) ∧ ∀ l, H l = none → Q (.ref l) (upd H l (.lst ys))) ta) σ H (.list (rs.map ruI)) := fun H1 e Q q =>
  evn_listOf h H1 e Q fun l xs H2 hl e2 h2 dx => q _ _ H2 e2 (.lst h2 ((ok.ex e).new hl) (rules_flat dx)) rfl
end
section
variable {P : Program} {w : World} {K : PySem.W.Frag} {mg : Str → Option Value} {base : Heap} {CB CG CN CT : Addr}
abbrev nGInit : List Str := ["self", "book", "moods", "rules", "liked", "rule"]
theorem scGInit : FnScope nGInit ["self", "book", "moods", "rules", "liked"] (defScope sGInit) := ⟨rfl, rfl, rfl, by decide +kernel, rfl, by decide +kernel, by decide +kernel⟩
theorem ok_ginit {f : Addr} {fd : FuncData} (F : Fun K "__init__" "Guesser.__init__" sGInit f fd) (G : GlobS mg) (GE : GlobE mg) (GY : GlobY mg) (T : GuesserT K mg CG) (TN : ExcT K mg "NoGuesser" CN) (B1 : OneF P w K mg base "is_rule" 2 ["book", "moods", "rule"] (spIsRule K CB)) (B2 : OneF P w K mg base "are_liked" 1 ["liked", "moods"] (spAreLiked K)) :
    FnOk P w K mg base (L2.CX P w) 4 f fd ["self", "book", "moods", "rules", "liked"] (spGInit K CB CG CN) := by
  obtain ⟨f1, d1, m1, k1, g1, b1⟩ := B1
  obtain ⟨f2, d2, m2, k2, g2, b2⟩ := B2
  obtain ⟨tM, hM⟩ := GE.mostM
  obtain ⟨tR, hR⟩ := GE.mostR
  refine F.okX scGInit (fun vs H Q E h => ?_) (fun cdv A outer s0 H vs Q E hr h => ?_)
  · obtain ⟨M, Mb, p, pb, dx, vr, vl, S, m, rules, ls, rfl, _⟩ := h
    rfl
  · obtain ⟨M, Mb, p, pb, dx, vr, vl, S, m, rules, ls, rfl, hp, hK, ok, hB, hvr, hvl, hl, hls, qy, qn⟩ := h
    have hr1 : Room 1 _ := hr.mono (show 1 ≤ 3 by decide)
    have hr2 : Room 2 _ := hr.mono (show 2 ≤ 3 by decide)
    refine ⟨_, (pss_cons (ps_if (pt_not (pt_chain op_le op_le pe_int (pv 2) (pe_glob rfl hM (show RelV (.int 5) _ from ⟨_, rfl⟩)))) (pss_one (ps_raise rfl (takes_of rfl rfl rfl rfl) (pmk_own PySem.F.excBase_ValueError TN.x TN.g TN.k (raises_own TN.b TN.t) rfl))) pss_nil)
      (pss_cons (ps_if (pt_not (pt_chain op_le op_le pe_int (pe_callB call_len_seq (by rfl) G.len PySem.boot_len (pa_cons (pv 3) pa_nil)) (pe_glob rfl hR (show RelV (.int 30) _ from ⟨_, rfl⟩)))) (pss_one (ps_raise rfl (takes_of rfl rfl rfl rfl) (pmk_own PySem.F.excBase_ValueError TN.x TN.g TN.k (raises_own TN.b TN.t) rfl))) pss_nil)
      (pss_cons (ps_if (pt_not (pt_val (pe_callB (cr_all rfl) (by rfl) G.all (by decide +kernel) (pa_cons (pe_lc (own := [("rule", 5)]) (g := gName 5) (tt := tYes) rfl scGInit.nd (pi_list (pv 3))
      (blkOk_by (N := nGInit) (sc := defScope sGInit) (by decide +kernel)) (fun _ _ _ _ _ => pg_name (i := 5) scGInit.nd rfl (.inl rfl)) (fun _ _ _ _ _ => pts_nil)
      (fun _ _ _ _ _ => pe_call g1 hr2 rfl m1 k1 b1 .nil pass0 (pa_cons (pv 1) (pa_cons (pv 2) (pa_cons (pv 5) pa_nil))))) pa_nil)))) (pss_one (ps_raise rfl (takes_of rfl rfl rfl rfl) (pmk_own PySem.F.excBase_ValueError TN.x TN.g TN.k (raises_own TN.b TN.t) rfl))) pss_nil)
      (pss_cons (ps_if (pt_not (pt_val (pe_call g2 hr1 rfl m2 k2 b2 .nil pass0 (pa_cons (pv 4) (pa_cons (pv 2) pa_nil))))) (pss_one (ps_raise rfl (takes_of rfl rfl rfl rfl) (pmk_own PySem.F.excBase_ValueError TN.x TN.g TN.k (raises_own TN.b TN.t) rfl))) pss_nil)
      (pss_cons (ps_fld (pv 0) (pv 1) rfl)
      (pss_cons (ps_fld (pv 0) (pe_callTy call_list_of (by rfl) GY.list (by decide +kernel) (pa_cons (pv 3) pa_nil)) rfl)
      (pss_one (ps_fld (pv 0) (pe_callTy call_list_of (by rfl) GY.list (by decide +kernel) (pa_cons (pv 4) pa_nil)) rfl)))))))), ?_⟩
    refine q_when (evt_not (evt_test (K := K) (M := M) (evd_chainI (g := fun i j => decide (i ≤ j)) (g' := fun i j => decide (i ≤ j)) evd_int (evd_var (i := 2) rfl (.int m)) evd_int))) (fun hb H1 e1 => ?_) (fun hb H1 e1 => ?_)
    · rw [Bool.not_eq_true'] at hb
      exact qn (by unfold gokB; rw [hb]; rfl) H1 e1
    rw [Bool.not_eq_false'] at hb
    refine q_when (evt_not (evt_test (K := K) (M := M) (evd_chainI (g := fun i j => decide (i ≤ j)) (g' := fun i j => decide (i ≤ j)) evd_int ((evd_lenL (es := rules.map ruI) (eva_cons (evd_var (i := 3) rfl (hvr.ex e1)) eva_nil)).mono fun d h => by rw [h, List.length_map]) evd_int))) (fun hb2 H2 e2 => ?_) (fun hb2 H2 e2 => ?_)
    · rw [Bool.not_eq_true'] at hb2
      exact qn (by unfold gokB; rw [hb, hb2]; rfl) H2 (e1.trans e2)
    rw [Bool.not_eq_false'] at hb2
    have e12 := e1.trans e2
    have ok2 := ok.ex e12
    refine q_when (evt_not (evt_B (K := K) (M := M) (evd_all (bs := rules.map (ruleB S m)) (eva_cons ?_ eva_nil)))) (fun hb3 H3 e3 => ?_) (fun hb3 H3 e3 => ?_)
    · refine ((evn_lcM (bs := rules) ruI (fun r => .bool (ruleB S m r)) ok2 (evd_var (i := 3) rfl (hvr.ex e12)) (Nat.lt_of_le_of_lt hl (by decide)) fun M' r x H' hM' ok' hb e dx Qg qg => ?_).data ok2).mono fun d hd => ?_
      · exact qg _ H' (Ex.refl _) ⟨rfl, evt_yes, fun _ H4 e4 Q q => ⟨_, rfl, _, rfl, _, rfl, M', Mb, pb, x, S, m, r, rfl, hB.ex ((e12.trans e).trans e4), hK, ok'.ex e4, dx.ex e4, hls r hb, fun H5 e5 => q _ _ H5 e5 (.bl _) rfl⟩⟩
      · obtain ⟨ds, rfl, rfl⟩ := hd
        rw [List.map_map]
        rfl
    · rw [Bool.not_eq_true', List.all_map] at hb3
      exact qn (by unfold gokB; rw [hb, hb2, show rules.all (ruleB S m) = false from hb3]; rfl) H3 (e12.trans e3)
    rw [Bool.not_eq_false', List.all_map] at hb3
    have e13 := e12.trans e3
    refine ⟨_, rfl, _, rfl, M, vl, ls, m, rfl, hvl.ex e13, fun H4 e4 => ⟨_, rfl, ?_⟩⟩
    have e14 := e13.trans e4
    cases hL' : likB m (-1) ls with
    | false => exact iteT (qn (by unfold gokB; rw [hb, hb2, show rules.all (ruleB S m) = true from hb3, hL']; rfl) H4 e14)
    | true =>
    refine iteF ?_
    have fin := qy (by unfold gokB; rw [hb, hb2, show rules.all (ruleB S m) = true from hb3, hL']; rfl)
    have hp4 : H4 p = some (.ins CG dx []) := e14 _ _ hp
    refine q_fldR (K := K) (i := 0) (j := 1) rfl rfl hp4 T.cl T.n1 (by decide) ?_
    have hpA : (upd H4 p (.ins CG dx (putF "_book" (.ref pb) []))) p = some (.ins CG dx (putF "_book" (.ref pb) [])) := upd_same
    have hvrA : Dt K M (upd H4 p (.ins CG dx (putF "_book" (.ref pb) []))) vr (.list (rules.map ruI)) := (hvr.ex e14).updI hp4
    have hvlA : Dt K M (upd H4 p (.ins CG dx (putF "_book" (.ref pb) []))) vl (listI ls) := (hvl.ex e14).updI hp4
    have okA : Ok (MO H) (upd H4 p (.ins CG dx (putF "_book" (.ref pb) []))) := okUpd (okO.ex e14)
    have kA : ∀ b o, H b = some o → b ≠ p → (upd H4 p (.ins CG dx (putF "_book" (.ref pb) []))) b = some o := fun b o hb hne => by rw [upd_ne hne]; exact e14 _ _ hb
    generalize upd H4 p (.ins CG dx (putF "_book" (.ref pb) [])) = HA at hpA hvrA hvlA okA kA
    refine q_fldP (K := K) (M := MO H) (i := 0) (P := (· = .list (rules.map ruI))) (evd_rulesNew (M := M) okA (eva_cons (evd_var (i := 3) rfl hvrA) eva_nil)) fun v1 d1 H5 e5 dv1 pd1 => ⟨p, CG, dx, _, rfl, e5 _ _ hpA, T.cl, T.n2, (by show 1 < 1000; decide), ?_⟩
    subst pd1
    obtain ⟨lr, rfl⟩ : ∃ lr, v1 = .ref lr := by
      cases dv1 with
      | lst h1 h2 h3 => exact ⟨_, rfl⟩
    have hp5 := e5 _ _ hpA
    have hTB : Dt K (MO H) (upd H5 p (.ins CG dx (putF "_rules" (.ref lr) (putF "_book" (.ref pb) [])))) (.ref lr) (.list (rules.map ruI)) := dv1.updI hp5
    have hvlB : Dt K M (upd H5 p (.ins CG dx (putF "_rules" (.ref lr) (putF "_book" (.ref pb) [])))) vl (listI ls) := (hvlA.ex e5).updI hp5
    have okB : Ok (MO H) (upd H5 p (.ins CG dx (putF "_rules" (.ref lr) (putF "_book" (.ref pb) [])))) := okUpd (okA.ex e5)
    have hpB : (upd H5 p (.ins CG dx (putF "_rules" (.ref lr) (putF "_book" (.ref pb) [])))) p = some (.ins CG dx (putF "_rules" (.ref lr) (putF "_book" (.ref pb) []))) := upd_same
    have kB : ∀ b o, H b = some o → b ≠ p → (upd H5 p (.ins CG dx (putF "_rules" (.ref lr) (putF "_book" (.ref pb) [])))) b = some o := fun b o hb hne => by rw [upd_ne hne]; exact e5 _ _ (kA b o hb hne)
    generalize upd H5 p (.ins CG dx (putF "_rules" (.ref lr) (putF "_book" (.ref pb) []))) = HB at hpB hTB hvlB okB kB
    refine s_fldP (K := K) (M := MO H) (i := 0) (P := (· = listI ls)) (evd_listNew (M := M) okB (eva_cons (evd_var (i := 4) rfl hvlB) eva_nil)) fun v2 d2 H6 e6 dv2 pd2 => ⟨p, CG, dx, _, rfl, e6 _ _ hpB, T.cl, T.n3, (by show 2 < 1000; decide), ?_⟩
    subst pd2
    obtain ⟨ll, rfl⟩ : ∃ ll, v2 = .ref ll := by
      cases dv2 with
      | lst h1 h2 h3 => exact ⟨_, rfl⟩
    have hp6 := e6 _ _ hpB
    exact fin _ ⟨dx, lr, ll, upd_same, newD_of ((hTB.ex e6).updI hp6), newD_of (dv2.updI hp6), fun b o hb hne => by rw [upd_ne hne]; exact e6 _ _ (kB b o hb hne)⟩
end
/-! ### Guesser.lead, likes_one, moods_of, likes -/
def spGLead (K : PySem.W.Frag) (CB CG : Addr) : Sp := fun vs H Q _ => ∃ (p : Addr) (S : List Sg) (G : Gp) (s : Nat) (z : V) (k : List (List Nat)), vs = [.ref p, .int (s : Int), z] ∧ GuessAt K CB CG MF H p S G ∧ Dt K MF H z (kidsD k) ∧ GoodG S G ∧ KidsOk S ∧
  ∀ x H', Ex H H' → Dt K MT H' x (tupI (ofN (gleadN G s k))) → Q x H'
def spGOne (K : PySem.W.Frag) (CB CG : Addr) : Sp := fun vs H Q _ => ∃ (M : Addr → Prop) (p : Addr) (S : List Sg) (G : Gp) (z : V) (ms : List Nat), vs = [.ref p, z] ∧ GuessAt K CB CG MF H p S G ∧ Ok M H ∧ Dt K M H z (intsD ms) ∧ ms.length ≤ 1000 ∧
  ∀ H', Ex H H' → Q (.bl (ms.any fun m => decide (m ∈ G.liked))) H'
def spGOf (K : PySem.W.Frag) (CB CG CT : Addr) : Sp := fun vs H Q E => ∃ (p : Addr) (v : V) (S : List Sg) (G : Gp) (ns : List Int), vs = [.ref p, v] ∧ GuessAt K CB CG MF H p S G ∧ GoodG S G ∧ KidsOk S ∧ Dt K MF H v (tupI ns) ∧
  (treeB S ns = false → ∀ H', Ex H H' → E (.ref CT) none H') ∧ (∀ t, OkT S t → ns = ofN t.row → t.size ≤ 40 → ∀ l H', H l = none → Ex H H' → H' l = some (.lst (nums (gmoods G t))) → Q (.ref l) H')
def glikes (G : Gp) (t : Tr) : Bool := (gmoods G t).any fun m => decide (m ∈ G.liked)
def spGLikes (K : PySem.W.Frag) (CB CG CT : Addr) : Sp := fun vs H Q E => ∃ (p : Addr) (v : V) (S : List Sg) (G : Gp) (ns : List Int), vs = [.ref p, v] ∧ GuessAt K CB CG MF H p S G ∧ GoodG S G ∧ KidsOk S ∧ Dt K MF H v (tupI ns) ∧
  (treeB S ns = false → ∀ H', Ex H H' → E (.ref CT) none H') ∧ (∀ t, OkT S t → ns = ofN t.row → t.size ≤ 40 → ∀ H', Ex H H' → Q (.bl (glikes G t)) H')
/-- the fold -/
def unT : PyData → List Nat
  | .tuple ds => ds.map fun d => match d with | .int i => i.toNat | _ => 0
  | _ => []
def FG (G : Gp) (s : Nat) (ds : List PyData) : PyData := tupI (ofN (gleadN G s (ds.map unT)))
theorem unT_tup (r : List Nat) : unT (tupI (ofN r)) = r := by
  unfold tupI ofN unT
  dsimp only
  rw [List.map_map, List.map_map]
  refine (List.map_congr_left fun x _ => ?_).trans (List.map_id r)
  rfl
theorem foldG (G : Gp) : ∀ t : Tr, foldT (FG G) t = tupI (ofN (gmoods G t))
  | .n0 s => rfl
  | .n1 s t => by
    rw [foldT, foldG G t, gmoods]
    unfold FG
    rw [List.map_cons, List.map_nil, unT_tup]
  | .n2 s t u => by
    rw [foldT, foldG G t, foldG G u, gmoods]
    unfold FG
    rw [List.map_cons, List.map_cons, List.map_nil, unT_tup, unT_tup]
theorem foldG_map (G : Gp) (ts : List Tr) : (.tuple (ts.map (foldT (FG G))) : PyData) = kidsD (ts.map (gmoods G)) := by
  unfold kidsD
  rw [List.map_map]
  congr 1
  exact List.map_congr_left fun t _ => foldG G t
theorem kids_any {K : PySem.W.Frag} {M M' : Addr → Prop} {H : Hp} {z : V} {k : List (List Nat)} (h : Dt K M H z (kidsD k)) : Dt K M' H z (kidsD k) := by
  unfold kidsD at h
  cases h with
  | tup h1 h2 =>
    refine .tup h1 ?_
    clear h1
    rename_i a xs
    induction k generalizing xs with
    | nil =>
      cases h2
      exact .nil
    | cons m k ih =>
      cases h2 with
      | cons r t => exact .cons (dt_any r) (ih t)
section
variable {P : Program} {w : World} {K : PySem.W.Frag} {mg : Str → Option Value} {base : Heap} {CB CG CN CT : Addr}
abbrev nGLead : List Str := ["self", "sign", "kids", "rule"]
theorem scGLead : FnScope nGLead ["self", "sign", "kids"] (defScope sGLead) := ⟨rfl, rfl, rfl, by decide +kernel, rfl, by decide +kernel, by decide +kernel⟩
theorem ok_glead {f : Addr} {fd : FuncData} (F : Fun K "lead" "Guesser.lead" sGLead f fd) (GE : GlobE mg) (GU : GlobU mg) (T : GuesserT K mg CG) (B : OneF P w K mg base "is_fitting" 1 ["wanted", "kids"] (spIsFit K)) : FnOk P w K mg base CX0 2 f fd ["self", "sign", "kids"] (spGLead K CB CG) := by
  obtain ⟨f1, d1, m1, k1, g1, b1⟩ := B
  refine F.ok scGLead (fun vs H Q E h => ?_) (fun cdv A outer s0 H vs Q E hr h => ?_)
  · obtain ⟨p, S, G, s, z, k, rfl, _⟩ := h
    rfl
  · obtain ⟨p, S, G, s, z, k, rfl, ⟨dx, pb, lr, ll, h1, h2, h3, h4⟩, hz, g, hK, q⟩ := h
    refine ⟨_, pss_one (ps_ret (pe_callTy call_tuple_of (by rfl) GU.tuple (by decide +kernel) (pa_cons (pe_callB (cr_sortedSet rfl) (by rfl) GE.sorted (by decide +kernel) (pa_cons (pe_scO (own := [("rule", 3)]) (g := gName 3) rfl scGLead.nd (pi_list (pe_fld (pv 0) rfl))
      (blkOk_by (N := nGLead) (sc := defScope sGLead) (by decide +kernel)) (fun _ _ _ _ _ => pg_name (i := 3) scGLead.nd rfl (.inl rfl)) (fun _ _ _ _ _ => pts_one (PW.pt (pw_and (pt_cmpR op_eq (pe_ix (ix_tupK (K := K) rfl) (pv 3) pe_int (fun _ _ => rfl)) (pv 1) (nomark _)) (pw_and1 (pt_val (pe_call g1 hr rfl m1 k1 b1 .nil pass0 (pa_cons (pe_ix (ix_tupK (K := K) rfl) (pv 3) pe_int (fun _ _ => rfl)) (pa_cons (pv 2) pa_nil))))))))
      (fun _ _ _ _ _ => pe_ix (ix_tupK (K := K) rfl) (pv 3) pe_int (fun _ _ => rfl))) pa_nil)) pa_nil))), ?_⟩
    have hlen : G.rules.length < 60 := by have := g.r30; omega
    have hn : EvNew K MF (tCB (rSortedSet w) (tCons (tScO w (iList K (tFld K (tVar 0) "_rules")) (gName 3) (tAnd (tTest (tOp rEq (tOp (rIxT K) (tVar 3) (tC (.int 0))) (tVar 1))) (tB (tCall (spIsFit K) [] E0 (tCons (tOp (rIxT K) (tVar 3) (tC (.int 1))) (tCons (tVar 2) tNil))))) (tOp (rIxT K) (tVar 3) (tC (.int 2))) [3]) tNil)) (start nGLead [.ref p, .int (s : Int), z]) H (fun ds => ∃ ns : List Int, ds = ns.map PyData.int ∧ ns.Pairwise (· < ·) ∧ ∀ m, m ∈ ns ↔ ∃ r ∈ G.rules, gruns s k r = true ∧ (r.2.2 : Int) = m) := by
      refine evp_sortedSc (bs := G.rules) ruD (gruns s k) (fun r => (r.2.2 : Int)) okF (evd_fld (i := 0) rfl h1 T.cl T.n2 (gflds_rules _ _ _) h3) hlen fun M' r x H' hM ok' hr e dx Qg qg => ?_
      refine qg _ H' (Ex.refl _) ⟨rfl, ?_, fun _ => evd_ixT (j := 2) (ds := [.int (r.1 : Int), tupI (ofN r.2.1), .int (r.2.2 : Int)]) (evd_var (i := 3) (d := ruD r) rfl dx) evd_int rfl rfl⟩
      have hx : ∀ {H2}, Ex H' H2 → EvD K M' (tVar 3) ((start nGLead [.ref p, .int (s : Int), z]).set 3 (some x)) H2 (ruD r) := fun e => evd_var (i := 3) rfl (dx.ex e)
      refine et_is (et_and (a := decide ((r.1 : Int) = (s : Int))) (evt_test (K := K) (M := M') (evd_eqI (evd_ixT (j := 0) (ds := [.int (r.1 : Int), tupI (ofN r.2.1), .int (r.2.2 : Int)]) (hx (Ex.refl _)) evd_int rfl rfl) (evd_var (i := 1) rfl (.int (s : Int))))) fun _ => evt_B (K := K) (M := M') (b := fitsB r.2.1 k) ?_) ?_
      · exact fun H2 e2 Q q2 => (evd_ixT (K := K) (M := M') (j := 1) (ds := [.int (r.1 : Int), tupI (ofN r.2.1), .int (r.2.2 : Int)]) (hx e2) evd_int rfl rfl) H2 (Ex.refl _) _ fun v d H3 e3 dv pd => by
          subst pd
          exact ⟨_, rfl, M', v, z, r.2.1, k, rfl, ok'.ex (e2.trans e3), dv, kids_any (hz.ex ((e.trans e2).trans e3)), by rw [(g.rule r hr).2.1]; have := ks_le hK r.1; omega, fun H4 e4 => q2 _ _ H4 (e3.trans e4) (.bl _) rfl⟩
      · unfold gruns
        congr 1
        by_cases h : r.1 = s
        · rw [decide_eq_true h, decide_eq_true (by omega)]
        · rw [decide_eq_false h, decide_eq_false (by omega)]
    refine hn H (Ex.refl _) _ fun l xs ds H1 hl e1 hl1 dxs hds => ?_
    obtain ⟨ns, rfl, h5, h6⟩ := hds
    have ens := glead_of g h5 h6
    subst ens
    refine ⟨l, xs, rfl, .inl ⟨sq_of hl1, fun t ht => q _ _ (e1.trans (Ex.new ht)) (.tup upd_same ?_)⟩⟩
    rw [dxs.ints]
    exact Dts.of_ints _
abbrev nGOne : List Str := ["self", "moods", "mood"]
theorem scGOne : FnScope nGOne ["self", "moods"] (defScope sGOne) := ⟨rfl, rfl, rfl, by decide +kernel, rfl, by decide +kernel, by decide +kernel⟩
theorem ok_gone {f : Addr} {fd : FuncData} (F : Fun K "likes_one" "Guesser.likes_one" sGOne f fd) (G : GlobS mg) (T : GuesserT K mg CG) : FnOk P w K mg base CX0 1 f fd ["self", "moods"] (spGOne K CB CG) := by
  refine F.ok scGOne (fun vs H Q E h => ?_) (fun cdv A outer s0 H vs Q E hr h => ?_)
  · obtain ⟨M, p, S, G, z, ms, rfl, _⟩ := h
    rfl
  · obtain ⟨M, p, S, Gs, z, ms, rfl, ⟨dx, pb, lr, ll, h1, h2, h3, h4⟩, ok, hz, hl, q⟩ := h
    refine ⟨_, (pss_one (ps_ret (pe_callB (cr_any rfl) (by rfl) G.any (by decide +kernel) (pa_cons (pe_lc (own := [("mood", 2)]) (g := gName 2) (tt := tYes) rfl scGOne.nd (pi_list (pv 1))
      (blkOk_by (N := nGOne) (sc := defScope sGOne) (by decide +kernel)) (fun _ _ _ _ _ => pg_name (i := 2) scGOne.nd rfl (.inl rfl)) (fun _ _ _ _ _ => pts_nil)
      (fun _ _ _ _ _ => pe_cmpR (op_in_seqK (K := K) rfl) (pv 2) (pe_fldK (K := K) rfl (pv 0) rfl) (by rfl))) pa_nil)))), ?_⟩
    refine s_retP (K := K) (M := M) (evd_any (bs := ms.map fun m => decide (m ∈ Gs.liked)) (eva_cons ?_ eva_nil)) fun x d H1 e1 dx pd => ?_
    · refine ((evn_lcM (bs := ms) (fun (m : Nat) => .int (m : Int)) (fun m => .bool (decide (m ∈ Gs.liked))) ok ((evd_var (i := 1) rfl hz).mono fun d h => ?_) (Nat.lt_of_le_of_lt hl (by decide)) fun M' m x H' hM' ok' hb e dx' Qg qg => ?_).data ok).mono fun d hd => ?_
      · rw [h]
        unfold intsD ofN
        rw [List.map_map]
        rfl
      · refine qg _ H' (Ex.refl _) ⟨rfl, evt_yes, fun _ => ?_⟩
        cases dx'
        intro H2 e2 Q q2
        exact (evd_inL (K := K) (M := MF) (z := m) (evd_var (i := 2) rfl (.int _)) (evd_fld (i := 0) rfl ((e.trans e2) _ _ h1) T.cl T.n3 (gflds_liked _ _ _) (h4.ex (e.trans e2)))) H2 (Ex.refl _) Q fun v d H3 e3 dv pd => by
          subst pd
          cases dv
          exact q2 _ _ H3 e3 (.bl _) rfl
      · obtain ⟨ds, rfl, rfl⟩ := hd
        rw [List.map_map]
        rfl
    · subst pd
      cases dx
      have := q H1 e1
      rw [List.any_map]
      exact this
theorem scGOf : FnScope ["self", "tree"] ["self", "tree"] (defScope sGOf) := ⟨rfl, rfl, rfl, by decide +kernel, rfl, by decide +kernel, by decide +kernel⟩
theorem ok_gof {f g : Addr} {fd : FuncData} (F : Fun K "moods_of" "Guesser.moods_of" sGOf f fd) (GY : GlobY mg) (T : GuesserT K mg CG) (bm : BMeth K CG "lead" g) (B1 : OneX P w K mg base "check_tree" 4 ["book", "tree"] (spCheck K CB CT)) (B2 : OneF P w K mg base "led" 3 ["book", "row", "lead"] (spLed K CB g (spGLead K CB CG))) :
    FnOk P w K mg base (L2.CX P w) 5 f fd ["self", "tree"] (spGOf K CB CG CT) := by
  obtain ⟨f1, d1, m1, k1, g1, b1⟩ := B1
  obtain ⟨f2, d2, m2, k2, g2, b2⟩ := B2
  refine F.okX scGOf (fun vs H Q E h => ?_) (fun cdv A outer s0 H vs Q E hr h => ?_)
  · obtain ⟨p, v, S, G, ns, rfl, _⟩ := h
    rfl
  · obtain ⟨p, v, S, G, ns, rfl, hR, gR, hK, hv, qn, qy⟩ := h
    have hr3 : Room 3 _ := hr.mono (show 3 ≤ 4 by decide)
    refine ⟨_, pss_cons (ps_expr (pe_call (E := E) g1 hr rfl m1 k1 b1 .nil (passes_call (takes_of rfl rfl rfl rfl) fun _ _ _ _ h => h) (pa_cons (pe_fld (pv 0) rfl) (pa_cons (pv 1) pa_nil))))
      (pss_one (ps_ret (pe_callTy call_list_of (by rfl) GY.list (by decide +kernel) (pa_cons (pe_call g2 hr3 rfl m2 k2 b2 .nil pass0 (pa_cons (pe_fld (pv 0) rfl) (pa_cons (pv 1) (pa_cons (pe_bnM (pv 0) T.cl bm) pa_nil)))) pa_nil)))), ?_⟩
    have hR0 := hR
    obtain ⟨dx, pb, lt, ll, h1, h2, h3, h4⟩ := hR
    refine ⟨_, rfl, p, CG, dx, _, _, rfl, h1, T.cl, T.n1, gflds_book _ _ _, _, rfl, pb, v, S, ns, rfl, h2, hK, hv, fun ht H1 e1 => ?_, qn⟩
    obtain ⟨t, hO, rfl, h40⟩ := treeB_tree hK ht
    refine ⟨_, rfl, p, CG, dx, _, _, rfl, e1 _ _ h1, T.cl, T.n1, gflds_book _ _ _, _, rfl, _, rfl, p, dx, _, rfl, e1 _ _ h1, gflds_no _ _ _ (by decide +kernel) (by decide +kernel) (by decide +kernel), fun q hq => ?_⟩
    have e2 : Ex H (upd H1 q (.met g p)) := e1.trans (Ex.new hq)
    refine ⟨pb, q, p, v, S, t, FG G, rfl, h2.ex e2, hK, hv.ex e2, hO, by omega, upd_same, fun u z H3 Q1 E1 e3 hu hz k => ?_, fun x H3 e3 dx3 => ?_⟩
    · rw [foldG_map] at hz
      refine ⟨p, S, G, u.root, z, u.kids.map (gmoods G), rfl, hR0.ex (e2.trans e3), kids_any hz, gR, hK, fun x H4 e4 dx4 => ?_⟩
      refine k _ H4 e4 ?_
      rw [foldG, gmoods_eq]
      exact dx4
    · rw [foldG] at dx3
      obtain ⟨a, rfl, ha⟩ := dt_tupN dx3
      have e03 : Ex H H3 := e2.trans e3
      exact ⟨a, _, rfl, .inr ha, fun l hl => qy t hO rfl h40 l _ (fresh_back e03 hl) (e03.trans (Ex.new hl)) upd_same⟩
theorem scGLikes : FnScope ["self", "tree"] ["self", "tree"] (defScope sGLikes) := ⟨rfl, rfl, rfl, by decide +kernel, rfl, by decide +kernel, by decide +kernel⟩
theorem ok_glikes {f : Addr} {fd : FuncData} (F : Fun K "likes" "Guesser.likes" sGLikes f fd) (T : GuesserT K mg CG) (B1 : OneMX P w K mg base CG "moods_of" 5 ["self", "tree"] (spGOf K CB CG CT)) (B2 : OneM P w K mg base CG "likes_one" 1 ["self", "moods"] (spGOne K CB CG)) :
    FnOk P w K mg base (L2.CX P w) 6 f fd ["self", "tree"] (spGLikes K CB CG CT) := by
  obtain ⟨f1, d1, m1, g1, b1⟩ := B1
  obtain ⟨f2, d2, m2, g2, b2⟩ := B2
  refine F.okX scGLikes (fun vs H Q E h => ?_) (fun cdv A outer s0 H vs Q E hr h => ?_)
  · obtain ⟨p, v, S, G, ns, rfl, _⟩ := h
    rfl
  · obtain ⟨p, v, S, G, ns, rfl, hR, gR, hK, hv, qn, qy⟩ := h
    have hr1 : Room 1 _ := hr.mono (show 1 ≤ 5 by decide)
    refine ⟨_, pss_one (ps_ret (pe_meth (pv 0) T.cl m2 g2 hr1 b2 .nil pass0 (pa_cons (pe_meth (E := E) (pv 0) T.cl m1 g1 hr b1 .nil (passes_call (takes_of rfl rfl rfl rfl) fun _ _ _ _ h => h) (pa_cons (pv 1) pa_nil)) pa_nil))), ?_⟩
    obtain ⟨dx, pb, lt, ll, h1⟩ := hR.ins
    have no : ∀ {x : Str}, ¬ x = "_liked" → ¬ x = "_rules" → ¬ x = "_book" → (gflds pb lt ll).lookup x = none := fun a b c => gflds_no _ _ _ a b c
    refine ⟨_, rfl, p, dx, _, rfl, h1, no (by decide +kernel) (by decide +kernel) (by decide +kernel), _, rfl, p, dx, _, rfl, h1, no (by decide +kernel) (by decide +kernel) (by decide +kernel), _, rfl, p, v, S, G, ns, rfl, hR, gR, hK, hv, qn, fun t hO ht h40 l H1 hl e1 hl1 => ?_⟩
    refine ⟨MF, p, S, G, .ref l, gmoods G t, rfl, hR.ex e1, okF, .lst hl1 (fun h => h) (nums_dts _), ?_, fun H2 e2 => qy t hO ht h40 H2 (e1.trans e2)⟩
    have := gmoods_len G t
    have := gR.m5
    omega
end
end TH
set_option maxRecDepth 100000
set_option maxHeartbeats 4000000
namespace TH
open PySem PySem.Spec PyProof.Rows L2 Evl
/-! ### for a, b in zip(tuple, list): the rule -/
def tIt (t : Addr) : Obj := { cls := .type "tuple_iterator", data := .fields #[.ref t, .int 0 0] }
def lIt (t : Addr) : Obj := { cls := .type "list_iterator", data := .fields #[.ref t, .int 0 0] }
abbrev zq1 (h : Heap) (a : Addr) : Heap := h.push (tIt a)
abbrev zq2 (h : Heap) (a b : Addr) : Heap := (zq1 h a).push (lIt b)
abbrev zq3 (h : Heap) (a b : Addr) : Heap := (zq2 h a b).push { cls := .type "tuple", data := .seq #[.ref h.objs.size, .ref (zq1 h a).objs.size] }
abbrev zq4 (h : Heap) (a b : Addr) : Heap := (zq3 h a b).push { cls := .type "tuple", data := .seq #[.none, .none] }
abbrev zq5 (h : Heap) (a b : Addr) : Heap := (zq4 h a b).push { cls := .type "zip", data := .fields #[.none, .bool false, .bool false, .ref (zq2 h a b).objs.size, .ref (zq3 h a b).objs.size] }
theorem meets_zipTL (a b : Addr) (xs ys : Array Value) :
    Meets (Builtin.«zip.__new__» ⟨[.type "zip", .ref a, .ref b], []⟩) (fun _ R s => s.heap.IsTuple a xs ∧ s.heap.IsList b ys ∧
      R (.ok (.ret (.ref (zq4 s.heap a b).objs.size))) { s with heap := zq5 s.heap a b }) :=
  .of_wp fun prog w A R s h => by
    obtain ⟨hp, g, d, tk, os⟩ := s; obtain ⟨hl1, hl2, h⟩ := h
    have hsub := sub_zip
    have hL1 : Heap.IsTuple (Shared.heap ⟨hp, g, d, tk, os⟩) a xs := hl1
    have hL2 : Heap.IsList (Shared.heap ⟨hp.push (tIt a), g, d, tk, os⟩) b ys := hl2.push _
    have q1 : ∀ {A' : Around} {E : Value → Shared → Prop} {Q : Value → Shared → Prop}, Q (.ref hp.objs.size) ⟨hp.push (tIt a), g, d, tk, os⟩ → wpAny (model prog w) A' (pyIter (.ref a)) Q E ⟨hp, g, d, tk, os⟩ := fun q => wpAny_pyIter_tuple hL1 q
    have q2 : ∀ {A' : Around} {E : Value → Shared → Prop} {Q : Value → Shared → Prop}, Q (.ref (hp.push (tIt a)).objs.size) ⟨(hp.push (tIt a)).push (lIt b), g, d, tk, os⟩ → wpAny (model prog w) A' (pyIter (.ref b)) Q E ⟨hp.push (tIt a), g, d, tk, os⟩ := fun q => wpAny_pyIter_list hL2 q
    wp_walk using q1, q2
    exact ⟨_, rfl, h⟩
theorem call_zipTL {prog : Program} {w : World} {A : Around} {E : Value → Shared → Prop} {s : Shared} {a b : Addr} {xs ys : Array Value} {Q : Value → Shared → Prop} (hl1 : s.heap.IsTuple a xs) (hl2 : s.heap.IsList b ys)
    (h : ∀ h', IsZip h' (s.heap.objs.size + 4) (s.heap.objs.size + 2) (s.heap.objs.size + 3) .none → IsTupOf2 h' (s.heap.objs.size + 2) (.ref s.heap.objs.size) (.ref (s.heap.objs.size + 1)) →
      IsTupOf2 h' (s.heap.objs.size + 3) .none .none → h'.IsTupleIter s.heap.objs.size a 0 → h'.IsListIter (s.heap.objs.size + 1) b 0 → h'.objs.size = s.heap.objs.size + 5 →
      (∀ c o, s.heap.get? c = some o → h'.get? c = some o) → Q (.ref (s.heap.objs.size + 4)) { s with heap := h' }) :
    wpAny (model prog w) A (call (.type "zip") [.ref a, .ref b]) Q E s := by
  refine callType_new F.called_zip (by decide) (F.typeCall_zip_2 _ _) (F.newCall_zip_2 _ _) (fun obj => F.args_object_init_3 obj _ _) F.entry_zip_new (meets_zipTL a b xs ys) ⟨hl1, hl2, ?_⟩
  have z1 : (zq1 s.heap a).objs.size = s.heap.objs.size + 1 := Heap.size_push ..
  have z2 : (zq2 s.heap a b).objs.size = s.heap.objs.size + 2 := by rw [Heap.size_push, z1]
  have z3 : (zq3 s.heap a b).objs.size = s.heap.objs.size + 3 := by rw [Heap.size_push, z2]
  have z4 : (zq4 s.heap a b).objs.size = s.heap.objs.size + 4 := by rw [Heap.size_push, z3]
  have z5 : (zq5 s.heap a b).objs.size = s.heap.objs.size + 5 := by rw [Heap.size_push, z4]
  have g5 : (zq5 s.heap a b).get? (zq4 s.heap a b).objs.size = some _ := Heap.get?_push_size _ rfl
  have g4 : (zq5 s.heap a b).get? (zq3 s.heap a b).objs.size = some _ := Heap.get?_push_of_some _ (Heap.get?_push_size _ rfl)
  have g3 : (zq5 s.heap a b).get? (zq2 s.heap a b).objs.size = some _ := Heap.get?_push_of_some _ (Heap.get?_push_of_some _ (Heap.get?_push_size _ rfl))
  have g2 : (zq5 s.heap a b).get? (zq1 s.heap a).objs.size = some (lIt b) := Heap.get?_push_of_some _ (Heap.get?_push_of_some _ (Heap.get?_push_of_some _ (Heap.get?_push_size _ rfl)))
  have g1 : (zq5 s.heap a b).get? s.heap.objs.size = some (tIt a) := Heap.get?_push_of_some _ (Heap.get?_push_of_some _ (Heap.get?_push_of_some _ (Heap.get?_push_of_some _ (Heap.get?_push_size _ rfl))))
  show _ ∧ _
  rw [z2, z3, z4] at g5
  rw [z1, z2] at g3
  rw [z3] at g4
  rw [z1] at g2
  rw [z4]
  exact ⟨⟨_, g5, rfl⟩, h _ g5 g3 g4 ⟨_, g1, rfl, rfl⟩ ⟨_, g2, rfl, rfl⟩ z5 fun c o x =>
    Heap.get?_push_of_some _ (Heap.get?_push_of_some _ (Heap.get?_push_of_some _ (Heap.get?_push_of_some _ (Heap.get?_push_of_some _ x))))⟩
theorem zip_sepTL (m a b : Nat) (ha : a < m) (hb : b < m) : ZipSep2 (m + 4) (m + 2) (m + 3) m (m + 1) [m, a] [m + 1, b] := by
  have mem2 : ∀ x u v : Nat, x ∈ [u, v] → x = u ∨ x = v := fun x u v h => by simpa using h
  refine { TIz := fun h => absurd (show m + 2 = m + 4 from h) (by omega), TOz := fun h => absurd (show m + 3 = m + 4 from h) (by omega), TITO := fun h => absurd (show m + 2 = m + 3 from h) (by omega), TIi1 := fun h => absurd (show m + 2 = m from h) (by omega), mem1 := List.mem_cons_self, zf1 := fun h => ?_, Tf1 := fun h => ?_, TIi2 := fun h => absurd (show m + 2 = m + 1 from h) (by omega), mem2 := List.mem_cons_self, zf2 := fun h => ?_, Tf2 := fun h => ?_, sep1_2 := fun h => ?_, sep2_1 := fun h => ?_ }
  · have := mem2 (m + 4) m a h; omega
  · have := mem2 (m + 3) m a h; omega
  · have := mem2 (m + 4) (m + 1) b h; omega
  · have := mem2 (m + 3) (m + 1) b h; omega
  · have := mem2 m (m + 1) b h; omega
  · have := mem2 (m + 1) m a h; omega
/-- the tuple at a and the list at b as they stand at each turn, the items in new pairs -/
def ItzM (K : PySem.W.Frag) (a b : Addr) : It :=
  ⟨fun i H => ∃ (xs ys : List V) (x y : V), SqT K H a xs ∧ SqL K H b ys ∧ xs[i]? = some x ∧ ys[i]? = some y,
    fun i H v H' => ∃ T x y, v = .ref T ∧ H T = none ∧ H' = upd H T (.tup [x, y]) ∧ (∀ xs, SqT K H a xs → xs[i]? = some x) ∧ ∀ ys, SqL K H b ys → ys[i]? = some y,
    fun i H => ∃ xs ys : List V, SqT K H a xs ∧ SqL K H b ys ∧ i = min xs.length ys.length⟩
theorem turn_zipM {P : Program} {w : World} {K : PySem.W.Frag} {elts : List Expr} {kk : Nat} {tpos : Pos} {a b z TI TO i1 i2 : Addr} (S : ZipSep2 z TI TO i1 i2 [i1, a] [i2, b]) :
    Turn P w K (.Tuple elts kk tpos) (ItzM K a b) [z, TI, TO, i1, i2] z (fun i h => IsZip h z TI TO .none ∧ IsTupOf2 h TI (.ref i1) (.ref i2) ∧ (∃ x y, IsTupOf2 h TO x y) ∧ h.IsTupleIter i1 a i ∧ h.IsListIter i2 b i) where
  mem := by simp
  obj := fun i h st c hc => by
    obtain ⟨hz, hTI, ⟨x, y, hTO⟩, ⟨o1, e1, _, d1⟩, ⟨o2, e2, _, d2⟩⟩ := st
    have e' : c = z ∨ c = TI ∨ c = TO ∨ c = i1 ∨ c = i2 := by simpa using hc
    rcases e' with q | q | q | q | q
    · rw [q]; exact ⟨_, hz, fun v q => nomatch q⟩
    · rw [q]; exact ⟨_, hTI, fun v q => nomatch q⟩
    · rw [q]; exact ⟨_, hTO, fun v q => nomatch q⟩
    · rw [q]; exact ⟨o1, e1, fun v q => by rw [d1] at q; cases q⟩
    · rw [q]; exact ⟨o2, e2, fun v q => by rw [d2] at q; cases q⟩
  keep := fun i h h' st k => by
    obtain ⟨hz, hTI, ⟨x, y, hTO⟩, h1, h2⟩ := st
    exact ⟨k z (by simp) _ hz, k TI (by simp) _ hTI, ⟨x, y, k TO (by simp) _ hTO⟩, h1.at fun o q => k i1 (by simp) o q, h2.at fun o q => k i2 (by simp) o q⟩
  item := by
    intro X hP hw hK hc i pins s σ H E I hf st hg
    subst hP hw hK
    obtain ⟨hz, hTI, ⟨x0, y0, hTO⟩, h1, h2⟩ := st
    obtain ⟨xs, ys, x, y, hqx, hqy, hx, hy⟩ := hg
    obtain ⟨its, rv, p, _⟩ := I.tuple hqx
    obtain ⟨its2, rv2, p2, _⟩ := I.list hqy
    obtain ⟨u, hu, ru⟩ := rv.get hx
    obtain ⟨u2, hu2, ru2⟩ := rv2.get hy
    have hzl : z < s.heap.objs.size := Heap.lt_size hz
    have D1 := Draws.tuple (prog := X.prog) (w := X.w) (A := X.A.in1) (I.ok.hd hc) i1 a (fun e => by
      obtain ⟨o, ho, hcl, _⟩ := p
      obtain ⟨o1, ho1, hc1, _⟩ := h1
      rw [e, ho1] at ho
      cases ho
      rw [hc1] at hcl
      simp at hcl) its.toArray
    have D2 := Draws.list (prog := X.prog) (w := X.w) (A := X.A.in1) (I.ok.hd hc) i2 b (fun e => by
      obtain ⟨o, ho, hcl, _⟩ := p2.isList
      obtain ⟨o1, ho1, hc1, _⟩ := h2
      rw [e, ho1] at ho
      cases ho
      rw [hc1] at hcl
      simp at hcl) its2.toArray
    refine wpAny_pyNext_zipD2_item S D1 D2 hz hTI hTO ⟨h1, p⟩ ⟨h2, p2.isList⟩ (by rw [List.size_toArray]; exact (List.getElem?_eq_some_iff.mp hu).1) (by rw [List.size_toArray]; exact (List.getElem?_eq_some_iff.mp hu2).1) fun v1 v2 h' tk y1 y2 z' TO' h1' h2' hT hsz hk => ?_
    have ev1 : v1 = u := by
      have y1 : its[i]? = some v1 := by simpa using y1
      rw [hu] at y1
      cases y1
      rfl
    have ev2 : v2 = u2 := by
      have y2 : its2[i]? = some v2 := by simpa using y2
      rw [hu2] at y2
      cases y2
      rfl
    subst ev1
    subst ev2
    refine ⟨_, rfl, wpAny_letOwnedTupleGo_zip (s := { s with heap := h', toks := tk }) z' fun h'' z'' sb => ?_⟩
    have hT2 : h''.get? s.heap.objs.size = some { cls := .type "tuple", data := .seq #[v1, v2] } := (sb.2 _ (Nat.ne_of_gt hzl)).trans hT
    have new : ObjOk X.prog X.w (upd H s.heap.objs.size (.tup [x, y])) h'' s.heap.objs.size (.tup [x, y]) :=
      ⟨by show 2 ≤ sizeLine; decide, [v1, v2], .cons ru (.cons ru2 .nil), ⟨_, hT2, rfl, _, rfl⟩⟩
    have I1 : Inv X pins σ (upd H s.heap.objs.size (.tup [x, y])) { s with heap := h'', toks := tk } :=
      I.turnedNew (t' := tk) (ch := [z, TI, TO, i1, i2]) (fun c o hb q => (sb.2 c (fun q' => hb (by simp [q']))).trans (hk c o (fun q' => hb (by simp [q'])) (fun q' => hb (by simp [q'])) (fun q' => hb (by simp [q'])) (fun q' => hb (by simp [q'])) q)) hf (Nat.le_refl _) new
    refine ⟨.ref s.heap.objs.size, _, I1, rfl, ⟨_, x, y, rfl, I.hok.fresh (Nat.le_refl _), rfl, fun l hl => by rw [I.tuple_inj hl hqx]; exact hx, fun l hl => by rw [I.list_inj hl hqy]; exact hy⟩, ⟨z'', ?_, ⟨v1, v2, ?_⟩, ?_, ?_⟩, fun c hcm => ?_⟩
    · exact (sb.2 _ S.TIz).trans (hk _ _ S.TIz S.TITO S.TIi1 S.TIi2 hTI)
    · exact (sb.2 _ S.TOz).trans TO'
    · exact h1'.1.at fun o q => (sb.2 _ (Ne.symm S.zi1)).trans q
    · exact h2'.1.at fun o q => (sb.2 _ (Ne.symm S.zi2)).trans q
    · have hlt : c < s.heap.objs.size := by
        have e' : c = z ∨ c = TI ∨ c = TO ∨ c = i1 ∨ c = i2 := by simpa using hcm
        rcases e' with q | q | q | q | q
        · rw [q]; exact hzl
        · rw [q]; exact Heap.lt_size hTI
        · rw [q]; exact Heap.lt_size hTO
        · rw [q]; obtain ⟨_, e1, _⟩ := h1; exact Heap.lt_size e1
        · rw [q]; obtain ⟨_, e2, _⟩ := h2; exact Heap.lt_size e2
      rw [upd_ne (Nat.ne_of_lt hlt)]
      exact (hf c hcm).1
  done := by
    intro X hP hw hK hc i pins s σ H E I hf st hg
    subst hP hw hK
    obtain ⟨hz, hTI, ⟨x0, y0, hTO⟩, h1, h2⟩ := st
    obtain ⟨xs, ys, hqx, hqy, hend⟩ := hg
    obtain ⟨its, rv, p, _⟩ := I.tuple hqx
    obtain ⟨its2, rv2, p2, _⟩ := I.list hqy
    have n1 : its.toArray.size = xs.length := by rw [List.size_toArray, ← rv.length]
    have n2 : its2.toArray.size = ys.length := by rw [List.size_toArray, ← rv2.length]
    have D1 := Draws.tuple (prog := X.prog) (w := X.w) (A := X.A.in1) (I.ok.hd hc) i1 a (fun e => by
      obtain ⟨o, ho, hcl, _⟩ := p
      obtain ⟨o1, ho1, hc1, _⟩ := h1
      rw [e, ho1] at ho
      cases ho
      rw [hc1] at hcl
      simp at hcl) its.toArray
    have D2 := Draws.list (prog := X.prog) (w := X.w) (A := X.A.in1) (I.ok.hd hc) i2 b (fun e => by
      obtain ⟨o, ho, hcl, _⟩ := p2.isList
      obtain ⟨o1, ho1, hc1, _⟩ := h2
      rw [e, ho1] at ho
      cases ho
      rw [hc1] at hcl
      simp at hcl) its2.toArray
    refine wpAny_pyNext_zipD2_end (i := i) S D1 D2 hz hTI hTO ⟨h1, p⟩ ⟨h2, p2.isList⟩ (by rw [n1]; omega) (by rw [n2]; omega) (by rw [n1, n2]; omega) fun h' tk hk => ⟨rfl, I.turnedL (t' := tk) (ch := [z, TI, TO, i1, i2]) (fun c o hb q =>
      hk c o (fun q' => hb (by simp [q'])) (fun q' => hb (by simp [q'])) (fun q' => hb (by simp [q'])) (fun q' => hb (by simp [q'])) q) hf⟩
  self := fun A i s Q E st h => wpAny_pyIter_zip st.1 h
def iZipM (K : PySem.W.Frag) (ta : TA) : TI := fun σ H R => ta σ H fun vs H1 => ∃ a b xs ys, vs = [.ref a, .ref b] ∧ SqT K H1 a xs ∧ SqL K H1 b ys ∧ R (ItzM K a b) H1
theorem pi_zipM {X : Cx} {e e2 : Expr} {ta : TA} {p pos tpos : Pos} {elts : List Expr} {kk : Nat} (hg : Gl X "zip") (hm : X.mg "zip" = none) (ha : PA X [e, e2] ta)
    (hs : starEach [e, e2] X.env = (false, eval e X.env) :: starEach [e2] X.env := by rfl) (hpl : (backTo pos (starEach [e2] X.env)).any (·.1) = false := by rfl) :
    PI X (.Tuple elts kk tpos) (.Call (.Name "zip" p) [e, e2] [] pos) (iZipM X.K ta) := by
  refine ⟨fun pins s σ H R I h => ?_⟩
  refine Call_ (ld_blt I hg hm PyProof.Rows.boot_zip (PyProof.Rows.callWith_type1 (thn (ha.run pos pins s σ H _ I h) fun us s1 ⟨vs, H1, I1, r1, q1⟩ => ?_) hs hpl))
  obtain ⟨a, b, xs, ys, ex, hqx, hqy, q⟩ := q1
  subst ex
  cases r1 with
  | cons r rr =>
    cases rr with
    | cons r' rr =>
      cases rr
      cases r
      cases r'
      obtain ⟨its, rv, p1, _⟩ := I1.tuple hqx
      obtain ⟨its2, rv2, p2, _⟩ := I1.list hqy
      have la : a < s1.heap.objs.size := by
        obtain ⟨o, ho, _⟩ := p1
        exact Heap.lt_size ho
      have lb : b < s1.heap.objs.size := p2.lt
      refine call_zipTL p1 p2.isList fun h' hz hTI hTO h1 h2 hsz hk => wpAny_pyIter_zip hz ?_
      have I2 : Inv X pins σ H1 { s1 with heap := h' } := I1.kept (t' := s1.toks) hk
      refine ⟨s1.heap.objs.size + 4, [s1.heap.objs.size + 4, s1.heap.objs.size + 2, s1.heap.objs.size + 3, s1.heap.objs.size, s1.heap.objs.size + 1], _, _, H1, rfl, I2, turn_zipM (zip_sepTL _ a b la lb), ⟨hz, hTI, ⟨_, _, hTO⟩, h1, h2⟩, fun c hcm => ?_, q⟩
      have e' : c = s1.heap.objs.size + 4 ∨ c = s1.heap.objs.size + 2 ∨ c = s1.heap.objs.size + 3 ∨ c = s1.heap.objs.size ∨ c = s1.heap.objs.size + 1 := by simpa using hcm
      have hle : s1.heap.objs.size ≤ c := by
        rcases e' with z | z | z | z | z
        · rw [z]; exact Nat.le_add_right _ _
        · rw [z]; exact Nat.le_add_right _ _
        · rw [z]; exact Nat.le_add_right _ _
        · rw [z]; exact Nat.le_refl _
        · rw [z]; exact Nat.le_add_right _ _
      exact I1.fpOk hle (I1.hok.fresh hle)
theorem walk_zipM {K : PySem.W.Frag} {a b : Addr} {xs ys : List V} {n : Nat} (hn : n = min xs.length ys.length) : Walk (ItzM K a b) n (fun H => SqT K H a xs ∧ SqL K H b ys) (YPair (fun i => xs[i]?) (fun i => ys[i]?)) := by
  refine ⟨fun i _ hi q => ?_, fun _ q => ⟨xs, ys, q.1, q.2, hn⟩, fun i H v H' _ q y => ?_⟩
  · have h1 : i < xs.length := by omega
    have h2 : i < ys.length := by omega
    exact ⟨xs, ys, xs[i], ys[i], q.1, q.2, by simp [h1], by simp [h2]⟩
  · obtain ⟨T, x, z, h1, h2, h3, h4, h5⟩ := y
    exact ⟨T, x, z, h1, h2, h3, h4 xs q.1, h5 ys q.2⟩
section
variable {K : PySem.W.Frag} {M M' N Mb : Addr → Prop} {H H1 H' : Hp} {σ : L2.St} {ta tb tc te tl : TE} {tt : TT} {g : TG} {vs : List Nat}
/-- a comprehension over a tuple and a list, side by side -/
theorem evn_lcZM {β γ : Type} {bs : List β} {cs : List γ} (enc : β → PyData) (enc' : γ → PyData) (f : β → γ → Bool) (F : β → γ → PyData) {tx : TE} (ok : Ok M H) (hl : EvD K M tl σ H (.tuple (bs.map enc))) (hl2 : EvD K M tx σ H (.list (cs.map enc'))) (hz : bs.length < sizeLine)
    (hs : ∀ (M' : Addr → Prop) (i : Nat) (b : β) (c : γ) (x y : V) (T : Addr) (H' : Hp), (∀ v d, Dt K M H v d → Dt K M' H' v d) → Ok M' H' → bs[i]? = some b → cs[i]? = some c → Ex H H' → Dt K M' H' x (enc b) → Dt K M' H' y (enc' c) → H' T = some (.tup [x, y]) →
      ∀ Qg : L2.St → Hp → Prop, (∀ σ2 H2, Ex H' H2 → Turned K M' σ vs tt te (f b c) (· = F b c) σ2 H2 → Qg σ2 H2) → g (.ref T) (wipe σ vs) H' Qg) :
    EvNew K M (tLc (iZipM K (tCons tl (tCons tx tNil))) g tt te vs) σ H (· = ((bs.zip cs).filter fun p => f p.1 p.2).map fun p => F p.1 p.2) := fun H0 e Q q =>
  hl H0 e _ fun v d H1 e1 dv pd => hl2 H1 (e.trans e1) _ fun v' d' H2 e2 dv' pd' => by
    subst pd pd'
    have dv2 := dv.ex e2
    cases dv2 with
    | tup h1 h3 =>
    cases dv' with
    | lst k1 k2 k3 =>
      rename_i a xs b ys
      refine ⟨a, b, xs, ys, rfl, SqT.of h1, sq_of k1, fun D hD => ?_⟩
      have l1 := h3.length
      have l2 := k3.length
      rw [List.length_map] at l1 l2
      have e02 := e1.trans e2
      refine lc_data (K := K) (σ := σ) (vs := vs) (bs.zip cs) (walk_zipM (K := K) (a := a) (b := b) (xs := xs) (ys := ys) (by rw [List.length_zip, l1, l2])) ((ok.ex (e.trans e02))) hD (Nat.lt_of_le_of_lt (by rw [List.length_zip]; exact Nat.min_le_left _ _) hz) (fun p => f p.1 p.2) (fun p e => e = F p.1 p.2) (fun H e => ⟨SqT.of (e _ _ h1), sq_of (e _ _ k1)⟩) (fun M' i p x H3 H' hm ok' hp e3 y Qg qg => ?_) (fun H3 es e3 dd pr => ?_)
      · obtain ⟨T, x0, y0, rfl, hT, rfl, hx, hy⟩ := y
        obtain ⟨hb, hc⟩ : bs[i]? = some p.1 ∧ cs[i]? = some p.2 := List.getElem?_zip_eq_some.mp hp
        obtain ⟨d1, hd1, dx⟩ := h3.get hx
        rw [List.getElem?_map, hb] at hd1
        cases hd1
        obtain ⟨d2, hd2, dy⟩ := k3.get hy
        rw [List.getElem?_map, hc] at hd2
        cases hd2
        have e4 : Ex H3 (upd H3 T (.tup [x0, y0])) := Ex.new hT
        exact hs M' i p.1 p.2 x0 y0 T _ (fun v d h => (hm v d (h.ex (e.trans e02))).ex (e3.trans e4)) (ok'.ex e4) hb hc (((e.trans e02).trans e3).trans e4) ((hm _ _ dx).ex (e3.trans e4)) ((hm _ _ dy).ex (e3.trans e4)) upd_same Qg fun σ2 H5 e5 T5 => qg σ2 H5 (e4.trans e5) T5
      · cases dd with
        | lst w1 w2 w3 => exact q D _ es H3 (fresh_back e02 hD) (e02.trans e3) w1 w3 (paired_map pr)
end
end TH
set_option maxRecDepth 100000
set_option maxHeartbeats 4000000
namespace TH
open PySem L2 Evl RZ
abbrev sLGuesser : Stmt := top 34
abbrev sLLead : Stmt := top 35
abbrev sLMoods : Stmt := top 36
/-! ### the law's own guessers -/
def spLGuesser (K : PySem.W.Frag) : Sp := fun vs H Q _ => ∃ (b : Addr) (v : V) (S : List Sg) (most : Nat), vs = [.ref b, v, .int (most : Int)] ∧ H b = some (Box b) ∧ Dt K MF H v (.list (S.map sgD)) ∧ KidsOk S ∧ 1 ≤ S.length ∧ S.length ≤ 100 ∧ 1 ≤ most ∧ most ≤ 5 ∧
  ∀ x G H', Ex H H' → GoodG S G → G.moods ≤ most → NewD K H H' x (guD G) → Q x H'
def spLLead (K : PySem.W.Frag) : Sp := fun vs H Q _ => ∃ (v z : V) (S : List Sg) (G : Gp) (s : Nat) (k : List (List Nat)), vs = [v, .int (s : Int), z] ∧ Dt K MF H v (guD G) ∧ Dt K MF H z (.list (k.map intsD)) ∧ GoodG S G ∧ KidsOk S ∧
  ∀ l H', H l = none → Ex H H' → H' l = some (.lst (nums (gleadN G s k))) → Q (.ref l) H'
def spLMoods (K : PySem.W.Frag) : Sp := fun vs H Q _ => ∃ (v y z : V) (S : List Sg) (G : Gp) (t : Tr), vs = [v, y, z] ∧ Dt K MF H v (.list (S.map sgD)) ∧ KidsOk S ∧ Dt K MF H y (guD G) ∧ GoodG S G ∧ Dt K MF H z (rowD t) ∧ OkT S t ∧ t.size ≤ 1000 ∧
  ∀ l H', H l = none → Ex H H' → H' l = some (.lst (nums (gmoods G t))) → Q (.ref l) H'
theorem ruD_flat {K : PySem.W.Frag} {M M' : Addr → Prop} {H : Hp} {v : V} {r : Ru} (h : Dt K M H v (ruD r)) : Dt K M' H v (ruD r) := ruI_flat h
section
variable {K : PySem.W.Frag} {M M' N : Addr → Prop} {H H1 H' : Hp} {σ : L2.St} {ta tb te : TE} {E : XK}
/-- tuple(..) of numbers of which something is known -/
theorem evp_tupOf {PL : List Int → Prop} (h : EvP K M te σ H (fun d => ∃ ns, d = listI ns ∧ PL ns)) : EvP K N (tCB (fun xs H Q => ∃ p ys, xs = [.ref p] ∧ ((SqL K H p ys ∧ ∀ t, H t = none → Q (.ref t) (upd H t (.tup ys))) ∨ (SqT K H p ys ∧ Q (.ref p) H))) (tCons te tNil)) σ H (fun d => ∃ ns, d = tupI ns ∧ PL ns) := fun H1 e Q q =>
  h H1 e _ fun v d H2 e2 dv pd => by
    obtain ⟨ns, rfl, pl⟩ := pd
    cases dv with
    | lst k1 k2 k3 => exact ⟨_, _, rfl, .inl ⟨sq_of k1, fun t ht => q _ _ _ (e2.trans (Ex.new ht)) (.tup upd_same (by rw [k3.ints]; exact Dts.of_ints ns)) ⟨ns, rfl, pl⟩⟩⟩
theorem q_asgE {i : Nat} {tz : TS} {D : Ends} (k : ∀ l, H l = none → tz D (σ.set i (some (.ref l))) (upd H l (.lst []))) : tSeq (tAsg (tLst tNil) (gName i)) tz D σ H := ⟨by decide, k⟩
theorem q_forRP {PN : Nat → Prop} {j : Nat} {tu tz : TS} {D : Ends} (h : EvP K M te σ H (fun d => ∃ n : Nat, d = .int (n : Int) ∧ PN n)) (hz : ∀ n, PN n → n ≤ 100000)
    (k : ∀ n H1, PN n → Ex H H1 → ∃ Pv : Nat → L2.St → Hp → Prop, Pv 0 σ H1 ∧ (∀ i σ' H', i < n → Pv i σ' H' → tu { D with nx := Pv (i + 1), ct := Pv (i + 1), bk := tz D } (σ'.set j (some (.int (i : Int)))) H') ∧ ∀ σ' H', Pv n σ' H' → tz D σ' H') : tSeq (tFor (iRng1 (tCons te tNil)) (gName j) tu) tz D σ H :=
  h.use fun v d H1 e1 dv pd => by
    obtain ⟨n, rfl, pn⟩ := pd
    cases dv
    have := hz n pn
    obtain ⟨Pv, h0, hs, hd⟩ := k n H1 pn e1
    refine ⟨(n : Int), rfl, by omega, by omega, for_range (lo := 0) (n := ((n : Int)).toNat) Pv h0 (fun i σ' H' hi p => ?_) (fun σ' H' p => hd σ' H' (by rw [Int.toNat_natCast] at p; exact p))⟩
    have e0 : (0 : Int) + (i : Int) = (i : Int) := Int.zero_add _
    show tu _ (σ'.set j (some (.int ((0 : Int) + (i : Int))))) H'
    rw [e0]
    exact hs i σ' H' (by omega) p
theorem evp_take1' {b : Addr} {n : Int} {z : Int} (hb : Ev tb σ H (.ref b)) (hx : H b = some (Box b)) (n0 : 0 < n) (n1 : n.natAbs < 2 ^ 200) :
    EvP K M (tOp rEq (tCall spTake [] E (tCons tb (tCons (tC (.int n)) tNil))) (tC (.int z))) σ H (fun d => ∃ c, d = .bool c ∧ True) :=
  evp_op (evp_take hb hx evd_int n0 n1) (evd_int (i := z)) fun x y a b H1 e dx dy px py Q q => by
    obtain ⟨k, rfl, _, _⟩ := px
    subst py
    cases dx
    cases dy
    exact ⟨rfl, q _ _ H1 (Ex.refl _) (.bl _) ⟨_, rfl, trivial⟩⟩
theorem evp_takeN {b : Addr} {n : Nat} (hb : Ev tb σ H (.ref b)) (hx : H b = some (Box b)) (hn : EvD K M te σ H (.int (n : Int))) (n0 : 0 < n) (n1 : n ≤ 1000) :
    EvP K M (tCall spTake [] E (tCons tb (tCons te tNil))) σ H (fun d => ∃ k : Nat, d = .int (k : Int) ∧ k < n) :=
  (evp_take hb hx hn (by omega) (Nat.lt_of_le_of_lt (show ((n : Nat) : Int).natAbs ≤ 1000 by omega) (by decide))).mono fun d ⟨k, h, k0, k1⟩ => ⟨k.toNat, by rw [h, Int.toNat_of_nonneg k0], by omega⟩
end
section
variable {P : Program} {w : World} {K : PySem.W.Frag} {mg : Str → Option Value} {base : Heap}
abbrev nLGuesser : List Str := ["_law_box_here", "_law_signs_here", "_law_most", "_law_moods_here", "_law_rules", "_law_turn", "_law_sign", "_law_kids", "_law_kid", "_law_mood"]
theorem scLGuesser : FnScope nLGuesser ["_law_box_here", "_law_signs_here", "_law_most"] (defScope sLGuesser) := ⟨rfl, rfl, rfl, by decide +kernel, rfl, by decide +kernel, by decide +kernel⟩
theorem ok_lguesser {f : Addr} {fd : FuncData} (F : Fun K "_law_guesser" "_law_guesser" sLGuesser f fd) (G : Glob mg) (GU : GlobU mg) (GT : OneF P w K mg base "_law_take" 2 ["_law_box_here", "_law_count"] spTake) :
    FnOk P w K mg base CX0 3 f fd ["_law_box_here", "_law_signs_here", "_law_most"] (spLGuesser K) := by
  obtain ⟨fT, dT, mT, kT, gT, bT⟩ := GT
  refine F.ok scLGuesser (fun vs H Q E h => ?_) (fun cdv A outer s0 H vs Q E hr h => ?_)
  · obtain ⟨b, v, S, most, rfl, _⟩ := h
    rfl
  · obtain ⟨b, v, S, most, rfl, hb, hv, hK, hS1, hS100, m1, m5, q⟩ := h
    refine ⟨_, (pss_cons (ps_set (i := 3) scLGuesser.nd rfl (.inr rfl) (pe_op op_add pe_int (pe_call gT hr rfl mT kT bT .nil pass0 (pa_cons (pv 0) (pa_cons (pv 2) pa_nil)))))
      (pss_cons (ps_set (i := 4) scLGuesser.nd rfl (.inl rfl) (pe_lst pa_nil))
      (pss_cons (ps_for PassesOwn.never rfl (pi_range1 rfl G.range (pa_cons (pe_op op_add pe_int (pe_call gT hr rfl mT kT bT .nil pass0 (pa_cons (pv 0) (pa_cons (pe_ix ix_list (pe_lst (pa_cons pe_int (pa_cons pe_int pa_nil))) (pe_call gT hr rfl mT kT bT .nil pass0 (pa_cons (pv 0) (pa_cons pe_int pa_nil))) (fun _ _ => rfl)) pa_nil)))) pa_nil)) (pg_name (i := 5) scLGuesser.nd rfl (.inl rfl))
      (pss_cons (ps_set (i := 6) scLGuesser.nd rfl (.inl rfl) (pe_call gT hr rfl mT kT bT .nil pass0 (pa_cons (pv 0) (pa_cons (pe_callB call_len_seq (by rfl) G.len PySem.boot_len (pa_cons (pv 1) pa_nil)) pa_nil))))
      (pss_cons (ps_set (i := 7) scLGuesser.nd rfl (.inl rfl) (pe_callTy call_tuple_of (by rfl) GU.tuple (by decide +kernel) (pa_cons (pe_lc (own := [("_law_kid", 8)]) (g := gName 8) (tt := tYes) rfl scLGuesser.nd (pi_range1 rfl G.range (pa_cons (pe_ix ix_tup (pe_ix ix_list (pv 1) (pv 6) (fun _ _ => rfl)) pe_int (fun _ _ => rfl)) pa_nil))
      (blkOk_by (N := nLGuesser) (sc := defScope sLGuesser) (by decide +kernel)) (fun _ _ _ _ _ => pg_name (i := 8) scLGuesser.nd rfl (.inl rfl)) (fun _ _ _ _ _ => pts_nil)
      (fun _ _ _ _ _ => pe_call gT hr rfl mT kT bT .nil pass0 (pa_cons (pv 0) (pa_cons (pv 3) pa_nil)))) pa_nil)))
      (pss_one (ps_expr (pe_bm PySem.F.plainAttrs_list PySem.F.slot_list_append PySem.F.type_list_append mt_append (pv 4) (pa_cons (pe_tup (pa_cons (pv 6) (pa_cons (pv 7) (pa_cons (pe_call gT hr rfl mT kT bT .nil pass0 (pa_cons (pv 0) (pa_cons (pv 3) pa_nil))) pa_nil)))) pa_nil)))))))
      (pss_one (ps_ret (pe_tup (pa_cons (pv 3) (pa_cons (pv 4) (pa_cons (pe_lc (own := [("_law_mood", 9)]) (g := gName 9) rfl scLGuesser.nd (pi_range1 rfl G.range (pa_cons (pv 3) pa_nil))
      (blkOk_by (N := nLGuesser) (sc := defScope sLGuesser) (by decide +kernel)) (fun _ _ _ _ _ => pg_name (i := 9) scLGuesser.nd rfl (.inl rfl)) (fun _ _ _ _ _ => pts_one (pt_cmpR op_eq (pe_call gT hr rfl mT kT bT .nil pass0 (pa_cons (pv 0) (pa_cons pe_int pa_nil))) pe_int (nomark _)))
      (fun _ _ _ _ _ => pv 9)) pa_nil))))))))), ?_⟩
    -- moods
    refine q_asgP (K := K) (M := MF) (P := fun d => ∃ m : Nat, d = .int (m : Int) ∧ 1 ≤ m ∧ m ≤ most) (evp_I0 (PB := fun d => ∃ k : Nat, d = .int (k : Int) ∧ k < most) (evd_int (i := 1)) (evp_takeN (n := most) (ev_var (i := 0) rfl) hb (evd_var (i := 2) rfl (.int _)) (by omega) (by omega)) fun a b pa pb => ?_) fun vm dm H1 e1 dvm pm => ?_
    · obtain ⟨k, rfl, k1⟩ := pb
      subst pa
      exact ⟨1, k, rfl, rfl, .int (1 + k), ⟨1 + k, rfl, by omega, by omega⟩, fun _ => .int _⟩
    obtain ⟨m, rfl, h1, h2⟩ := pm
    cases dvm
    refine q_asgE fun lr hlr => ?_
    have hlrH : H lr = none := fresh_back e1 hlr
    have e2 : Ex H (upd H1 lr (.lst [])) := e1.trans (Ex.new hlr)
    have hl2 : (upd H1 lr (.lst [])) lr = some (.lst []) := upd_same
    generalize upd H1 lr (.lst []) = H2 at e2 hl2
    -- how many rules
    refine q_forRP (K := K) (M := MF) (PN := fun n => 1 ≤ n ∧ n ≤ 30) (evp_I0 (PB := fun d => ∃ k : Nat, d = .int (k : Int) ∧ k < 30) (evd_int (i := 1)) ?_ fun a b pa pb => ?_) (fun n hn => by omega) fun n H3 hn e3 => ?_
    · intro H3 e3 Q q
      refine ev_var (i := 0) (v := .ref b) rfl H3 e3 _ fun H4 e4 => ?_
      refine (evp_pick (K := K) (M := MF) (ns := [6, 30]) (n := 2) (evd_lst okF (eva_cons evd_int (eva_cons evd_int eva_nil)) (by show 2 ≤ sizeLine; decide)) (ev_var (i := 0) rfl) ((e2.trans (e3.trans e4)) _ _ hb) evd_int rfl (by decide) (by decide)) H4 (Ex.refl _) _ fun z d H5 e5 dz pz => ?_
      obtain ⟨z', rfl, hz⟩ := pz
      cases dz
      have hz' : z' = 6 ∨ z' = 30 := by simpa using hz
      refine ⟨b, z', rfl, (e2.trans (e3.trans (e4.trans e5))) _ _ hb, by omega, Nat.lt_of_le_of_lt (show z'.natAbs ≤ 30 by omega) (by decide), fun k H6 k0 k1 e6 => q _ _ H6 (e4.trans (e5.trans e6)) (.int _) ⟨k.toNat, by rw [Int.toNat_of_nonneg k0], by omega⟩⟩
    · obtain ⟨k, rfl, k1⟩ := pb
      subst pa
      exact ⟨1, k, rfl, rfl, .int (1 + k), ⟨1 + k, by rw [Int.natCast_add]; rfl, by omega, by omega⟩, fun _ => .int _⟩
    obtain ⟨n1, n30⟩ := hn
    have e23 := e2.trans e3
    refine ⟨fun i σ' H' => Ex H H' ∧ ∃ u5 u6 u7 u8 u9 xs rs, σ' = [some (.ref b), some v, some (.int (most : Int)), some (.int (m : Int)), some (.ref lr), u5, u6, u7, u8, u9] ∧ H' lr = some (.lst xs) ∧ Dts K MT H' xs (rs.map ruD) ∧ rs.length = i ∧ ∀ r ∈ rs, r.1 < S.length ∧ r.2.1.length = ks S r.1 ∧ (∀ x ∈ r.2.1, x < m) ∧ r.2.2 < m,
      ⟨e23, none, none, none, none, none, [], [], rfl, e3 _ _ hl2, .nil, rfl, fun r hr => nomatch hr⟩, ?_, ?_⟩
    · rintro i σ' H4 hi ⟨e4, u5, u6, u7, u8, u9, xs, rs, rfl, hl4, d4, hlen, hrs⟩
      have hi30 : i < 30 := by omega
      refine q_asgP (K := K) (M := MF) (evp_takeN (n := S.length) (ev_var (i := 0) rfl) (e4 _ _ hb) ((evd_lenL (es := S.map sgD) (eva_cons (evd_var (i := 1) rfl (hv.ex e4)) eva_nil)).mono fun d h => by rw [h, List.length_map]) (by omega) (by omega)) fun vs6 ds6 H5 e5 dv6 p6 => ?_
      obtain ⟨j, rfl, hj⟩ := p6
      cases dv6
      have e45 := e4.trans e5
      have hSj : S[j]? = some (S[j]'hj) := List.getElem?_eq_getElem _
      have hkk := hK _ (List.mem_of_getElem? hSj)
      have hk2 := ks_le hK j
      refine q_asgP (K := K) (M := MF) (P := fun d => ∃ ns : List Int, d = tupI ns ∧ ∃ kd : List Nat, ns = ofN kd ∧ kd.length = ks S j ∧ ∀ x ∈ kd, x < m) (evp_tupOf (M := MF) (((evn_lcRI (K := K) (M := MF) (n := ks S j) (fun i es => ∃ kd : List Nat, es = (ofN kd).map PyData.int ∧ kd.length = i ∧ ∀ x ∈ kd, x < m) okF ?_ (by omega) ⟨[], rfl, rfl, fun x h => nomatch h⟩ (fun M' i es H' hm ok' hi hI e Qg qg => ?_)).data okF).mono fun d ⟨ds, hd, kd, hds, h1, h2⟩ => ⟨ofN kd, by rw [hd, hds]; rfl, kd, rfl, h1, h2⟩)) fun vk dk H6 e6 dvk pk => ?_
      · have hev := evd_ar (K := K) (M := MF) (te := tVar 6) (i := 1) (k := 0) (j := j) (z := (j : Int)) (q := S[j]'hj) (σ := ([some (.ref b), some v, some (.int (most : Int)), some (.int (m : Int)), some (.ref lr), u5, u6, u7, u8, u9].set 5 (some (.int (i : Int)))).set 6 (some (.int (j : Int)))) (H := H5) rfl (hv.ex e45) (evd_var (i := 6) rfl (.int (j : Int))) rfl hSj
        exact eva_cons (hev.mono fun d h => by rw [h, ks_of hSj, Int.toNat_of_nonneg hkk.1]) eva_nil
      · obtain ⟨kd, rfl, hl, hlt⟩ := hI
        refine qg _ H' (Ex.refl _) ⟨rfl, fun H7 e7 Q q => q true H7 (Ex.refl _) (fun _ => ?_) (fun h => nomatch h)⟩
        refine (evp_takeN (n := m) (ev_var (i := 0) rfl) ((e45.trans (e.trans e7)) _ _ hb) (evd_var (i := 3) rfl (.int (m : Int))) (by omega) (by omega)).mono fun d ⟨k, h1, h2⟩ => ⟨kd ++ [k], ?_, by rw [List.length_append, hl]; rfl, fun x hx => ?_⟩
        · unfold ofN
          rw [List.map_append, List.map_append, h1]
          rfl
        · rcases List.mem_append.mp hx with hx | hx
          · exact hlt x hx
          · rw [List.mem_singleton.mp hx]
            exact h2
      obtain ⟨_, rfl, kd, rfl, hkl, hkm⟩ := pk
      have e46 := e45.trans e6
      have hl6 := (e5.trans e6) _ _ hl4
      refine s_appP (K := K) (M := MF) (i := 4) (P := fun d => ∃ r : Ru, d = ruD r ∧ r.1 = j ∧ r.2.1 = kd ∧ r.2.2 < m) hl6 rfl ((evp_tup (evpa_cons (evd_var (i := 6) rfl (.int (j : Int))) (evpa_cons (evd_var (i := 7) (d := tupI (ofN kd)) rfl dvk) (evpa_cons (evp_takeN (n := m) (ev_var (i := 0) rfl) (e46 _ _ hb) (evd_var (i := 3) rfl (.int (m : Int))) (by omega) (by omega)) eva_nil))) (fun ds ⟨_, _, h, _, _, _, h2, _, _, _, h3, _, h4⟩ => by rw [h, h2, h3, h4]; show 3 ≤ sizeLine; decide)).mono fun d ⟨ds, h0, a1, ds1, h1, p1, a2, ds2, h2, p2, a3, ds3, h3, ⟨k, p3, hk⟩, h4⟩ => ⟨(j, kd, k), by rw [h0, h1, h2, h3, h4, p1, p2, p3]; rfl, rfl, rfl, hk⟩) ?_ fun vr dr H7 e7 dvr pr => ?_
      · rw [d4.length, List.length_map]
        exact Nat.lt_of_le_of_lt (show rs.length ≤ 30 by omega) (by decide)
      · obtain ⟨r, rfl, r1, r2, r3⟩ := pr
        have hl7 := e7 _ _ hl6
        refine ⟨Ex.mut (e46.trans e7) hlrH, _, _, _, _, _, xs ++ [vr], rs ++ [r], rfl, upd_same, ?_, by rw [List.length_append, hlen]; rfl, fun r' hr' => ?_⟩
        · rw [List.map_append]
          exact ((d4.ex ((e5.trans e6).trans e7)).append (.one (ruD_flat dvr))).upd hl7 trivial
        · rcases List.mem_append.mp hr' with hr' | hr'
          · exact hrs r' hr'
          · rw [List.mem_singleton.mp hr', r1, r2]
            exact ⟨hj, hkl, hkm, r3⟩
    · rintro σ' H4 ⟨e4, u5, u6, u7, u8, u9, xs, rs, rfl, hl4, d4, hlen, hrs⟩
      refine ⟨_, rfl, _, rfl, evn_lcRI (K := K) (M := MF) (n := m) (fun i es => ∃ ls : List Nat, es = (ofN ls).map PyData.int ∧ ls.Pairwise (· < ·) ∧ ∀ x ∈ ls, x < i) okF (eva_cons (evd_var (i := 3) rfl (.int _)) eva_nil) (by omega) ⟨[], rfl, .nil, fun x h => nomatch h⟩ (fun M' i es H' hm ok' hi hI e Qg qg => ?_) H4 (Ex.refl _) _ fun c ys ds H5 hc e5 hc5 dys pI => ⟨by show 3 ≤ sizeLine; decide, fun p hp => ?_⟩⟩
      · obtain ⟨ls, rfl, hl, hlt⟩ := hI
        refine qg _ H' (Ex.refl _) ⟨rfl, fun H5 e5 Q q => evtp_test (K := K) (M := MF) (PB := fun _ => True) (evp_take1' (ev_var (i := 0) rfl) (((e4.trans e).trans e5) _ _ hb) (by decide) (by decide)) H5 (Ex.refl _) Q fun c H6 e6 _ => q c H6 e6 (fun _ => ?_) (fun _ => ⟨ls, rfl, hl, fun x hx => Nat.lt_succ_of_lt (hlt x hx)⟩)⟩
        refine (evd_var (i := 9) rfl (.int (i : Int))).mono fun d h => ⟨ls ++ [i], ?_, List.pairwise_append.mpr ⟨hl, List.pairwise_singleton _ _, fun x hx y hy => by rw [List.mem_singleton.mp hy]; exact hlt x hx⟩, fun x hx => ?_⟩
        · unfold ofN
          rw [List.map_append, List.map_append, h]
          rfl
        · rcases List.mem_append.mp hx with hx | hx
          · exact Nat.lt_succ_of_lt (hlt x hx)
          · rw [List.mem_singleton.mp hx]
            exact Nat.lt_succ_self _
      · obtain ⟨ls, rfl, hl, hltm⟩ := pI
        have e6 : Ex H5 (upd H5 p (.tup [.int (m : Int), .ref lr, .ref c])) := Ex.new hp
        have hcH : H c = none := fresh_back e4 hc
        refine q _ ⟨m, rs, ls⟩ _ ((e4.trans e5).trans e6) ⟨h1, by show m ≤ 5; omega, by show 1 ≤ rs.length; omega, by show rs.length ≤ 30; omega, hrs, hl, hltm⟩ h2 fun M' ok => .tup upd_same (.cons (.int _) (.cons (.lst ((e5.trans e6) _ _ hl4) (fun z => ok lr z hlrH) (Dts.flat (d4.ex (e5.trans e6)))) (.cons (.lst (e6 _ _ hc5) (fun z => ok c z hcH) ?_) .nil)))
        rw [dts_intsN dys]
        exact nums_dts ls
end
end TH
set_option maxRecDepth 100000
set_option maxHeartbeats 4000000
namespace TH
open PySem L2 Evl RZ
theorem sort_ltI {ns : List Int} (h : ns.Pairwise (· ≤ ·)) (nd : ns.Nodup) : ns.Pairwise (· < ·) := h.imp₂ (fun a b h1 h2 => by omega) nd
theorem nodup_ofN {r : List Nat} (h : r.Nodup) : (ofN r).Nodup := by
  unfold ofN
  exact List.Pairwise.map _ (fun a b h => by omega) h
theorem fits_nil (w : List Nat) (k : List (List Nat)) : PyData.eqv (intsD (((w.zip k).filter fun p => !decide (p.1 ∈ p.2)).map (·.1))) (.list []) = fitsB w k := by
  unfold fitsB
  cases h : ((w.zip k).filter fun p => !decide (p.1 ∈ p.2)) with
  | nil =>
    rw [List.filter_eq_nil_iff] at h
    rw [show (w.zip k).all (fun p => decide (p.1 ∈ p.2)) = true from List.all_eq_true.mpr fun p hp => by
      have := h p hp
      simpa using this]
    rfl
  | cons p ps =>
    have hp : p ∈ (w.zip k).filter fun p => !decide (p.1 ∈ p.2) := by rw [h]; exact List.mem_cons_self
    obtain ⟨h1, h2⟩ := List.mem_filter.mp hp
    have : (w.zip k).all (fun p => decide (p.1 ∈ p.2)) = false := by
      rw [List.all_eq_false]
      exact ⟨p, h1, by simpa using h2⟩
    rw [this]
    rfl
section
variable {K : PySem.W.Frag} {M M' : Addr → Prop} {H H1 H' : Hp} {σ : L2.St} {ta tb te : TE}
theorem evd_notInL {z : Nat} {ys : List Nat} (ha : EvD K M ta σ H (.int (z : Int))) (hb : EvD K M tb σ H (intsD ys)) : EvD K M (tOp (rIn K true) ta tb) σ H (.bool (!decide (z ∈ ys))) :=
  evp_op ha hb fun x y a b H1 e dx dy px py Q q => by
    subst px py
    cases dx
    obtain ⟨t, rfl, ht, _⟩ := dt_listN dy
    refine ⟨_, _, rfl, .inl (sq_of ht), rfl, by rw [← nums_of]; exact flat_ints _, ?_⟩
    rw [inV_nums]
    exact q _ _ H1 (Ex.refl _) (.bl _) rfl
theorem dt_numsQ {l : Addr} {ys : List Nat} (h : H l = some (.lst (nums ys))) : Dt K MF H (.ref l) (intsD ys) := .lst h (fun z => z) (nums_dts ys)
theorem evd_llead {E : XK} {tc : TE} {S : List Sg} {G : Gp} {s : Nat} {k : List (List Nat)} (ha : EvD K MF ta σ H (guD G)) (hb : EvD K MF tb σ H (.int (s : Int))) (hc : EvD K MF tc σ H (.list (k.map intsD))) (g : GoodG S G) (hK : KidsOk S) {Q : VK}
    (q : ∀ l H', H l = none → Ex H H' → H' l = some (.lst (nums (gleadN G s k))) → Q (.ref l) H') : tCall (spLLead K) [] E (tCons ta (tCons tb (tCons tc tNil))) σ H Q :=
  ha H (Ex.refl _) _ fun v1 d1 H2 e2 dv1 p1 => hb H2 e2 _ fun v2 d2 H3 e3 dv2 p2 => hc H3 (e2.trans e3) _ fun v3 d3 H4 e4 dv3 p3 => by
    subst p1 p2 p3
    cases dv2
    exact ⟨v1, v3, S, G, s, k, rfl, dv1.ex (e3.trans e4), dv3, g, hK, fun l H5 hl e5 hl5 => q l H5 (fresh_back ((e2.trans e3).trans e4) hl) (((e2.trans e3).trans e4).trans e5) hl5⟩
end
section
variable {P : Program} {w : World} {K : PySem.W.Frag} {mg : Str → Option Value} {base : Heap}
abbrev nLLead : List Str := ["_law_plain", "_law_sign", "_law_kids", "_law_found", "_law_own", "_law_wanted", "_law_mood", "_law_fits_all", "_law_one", "_law_some"]
theorem scLLead : FnScope nLLead ["_law_plain", "_law_sign", "_law_kids"] (defScope sLLead) := ⟨rfl, rfl, rfl, by decide +kernel, rfl, by decide +kernel, by decide +kernel⟩
theorem ok_llead {f : Addr} {fd : FuncData} (F : Fun K "_law_lead" "_law_lead" sLLead f fd) (GE : GlobE mg) : FnOk P w K mg base CX0 1 f fd ["_law_plain", "_law_sign", "_law_kids"] (spLLead K) := by
  refine F.ok scLLead (fun vs H Q E h => ?_) (fun cdv A outer s0 H vs Q E hr h => ?_)
  · obtain ⟨v, z, S, G, s, k, rfl, _⟩ := h
    rfl
  · obtain ⟨v, z, S, G, s, k, rfl, hv, hz, g, hK, q⟩ := h
    have hu := hu64 hr
    refine ⟨_, (pss_cons (ps_set (i := 3) scLLead.nd rfl (.inl rfl) (pe_lst pa_nil))
      (pss_cons (ps_for PassesOwn.never rfl (pi_list (pe_ix ix_tup (pv 0) pe_int (fun _ _ => rfl))) (pg_tup rfl (pgs_cons (pg_name (i := 4) scLLead.nd rfl (.inl rfl)) (pgs_cons (pg_name (i := 5) scLLead.nd rfl (.inl rfl)) (pgs_cons (pg_name (i := 6) scLLead.nd rfl (.inl rfl)) pgs_nil))))
      (pss_cons (ps_set (i := 7) scLLead.nd rfl (.inl rfl) (pe_cmpR (op_eqD hu) (pe_lc (own := [("_law_one", 8), ("_law_some", 9)]) rfl scLLead.nd (pi_zipM (by rfl) GE.zip (pa_cons (pv 5) (pa_cons (pv 2) pa_nil)))
      (blkOk_by (N := nLLead) (sc := defScope sLLead) (by decide +kernel)) (fun _ _ _ _ _ => pg_tupK (K := K) (n := 2) rfl rfl (pgs_cons (pg_name (i := 8) scLLead.nd rfl (.inl rfl)) (pgs_cons (pg_name (i := 9) scLLead.nd rfl (.inl rfl)) pgs_nil))) (fun _ _ _ _ _ => pts_one (pt_cmpR (op_notIn_seqK (K := K) rfl) (pv 8) (pv 9) (by rfl)))
      (fun _ _ _ _ _ => pv 8)) (pe_lst pa_nil) (nomark _)))
      (pss_one (ps_if (PW.pt (pw_and (pt_cmpR op_eq (pv 4) (pv 1) (nomark _)) (pw_and (pt_val (pv 7)) (pw_and1 (pt_cmpR op_notIn_seq (pv 6) (pv 3) (by rfl)))))) (pss_one (ps_expr (pe_bm PySem.F.plainAttrs_list PySem.F.slot_list_append PySem.F.type_list_append mt_append (pv 3) (pa_cons (pv 6) pa_nil)))) pss_nil))))
      (pss_one (ps_ret (pe_callB cr_sortedI (by rfl) GE.sorted (by decide +kernel) (pa_cons (pv 3) pa_nil)))))), ?_⟩
    refine q_asgE fun lf hlf => ?_
    have e1 : Ex H (upd H lf (.lst [])) := Ex.new hlf
    have hf1 : (upd H lf (.lst [])) lf = some (.lst (nums [])) := upd_same
    generalize upd H lf (.lst []) = H1 at e1 hf1
    have hva : Dt K (· = lf) H1 v (.tuple [.int (G.moods : Int), .list (G.rules.map ruD), intsD G.liked]) := (hv.avoid fun a m => .inr (by rw [m]; exact hlf)).ex e1
    refine (evd_ixT (K := K) (M := (· = lf)) (j := 1) (ds := [.int (G.moods : Int), .list (G.rules.map ruD), intsD G.liked]) (evd_var (i := 0) rfl hva) evd_int rfl rfl) H1 (Ex.refl _) _ fun vz dz H2 e2 dvz pz => ?_
    subst pz
    cases dvz with
    | lst h1 h2 h3 =>
    rename_i lr xr
    have e12 := e1.trans e2
    have hne : lr ≠ lf := h2
    refine ⟨lr, rfl, ⟨_, sq_of h1⟩, for_list (K := K) (a := lr) (xs := xr) (fun i σ' H' => Ex H H' ∧ H' lr = some (.lst xr) ∧ Dts K (· = lf) H' xr (G.rules.map ruD) ∧ ∃ u4 u5 u6 u7 ms, σ' = [some v, some (.int (s : Int)), some z, some (.ref lf), u4, u5, u6, u7, none, none] ∧ H' lf = some (.lst (nums ms)) ∧ ms.Nodup ∧ ms.length ≤ i ∧ ∀ m, m ∈ ms ↔ ∃ r ∈ G.rules.take i, gruns s k r = true ∧ r.2.2 = m)
      ⟨e12, h1, h3, none, none, none, none, [], rfl, e2 _ _ hf1, List.nodup_nil, Nat.le_refl _, fun m => ⟨fun h => (nomatch h), fun ⟨r, h, _⟩ => by rw [List.take_zero] at h; exact nomatch h⟩⟩ (fun i σ' H' _ h => sq_of h.2.1) ?_ ?_⟩
    · rintro i x σ' H3 hx ⟨e3, hr3, d3, u4, u5, u6, u7, ms, rfl, hf3, nd, hle, hms⟩
      obtain ⟨d, hd, dx⟩ := d3.get hx
      rw [List.getElem?_map] at hd
      cases hr : G.rules[i]? with
      | none =>
        rw [hr] at hd
        cases hd
      | some r =>
      rw [hr] at hd
      cases hd
      have hi : i < G.rules.length := (List.getElem?_eq_some_iff.mp hr).1
      have h30 := g.r30
      obtain ⟨g1, g2, g3, g4⟩ := g.rule r (List.mem_of_getElem? hr)
      have hk2 := ks_le hK r.1
      obtain ⟨tx, vw, rfl, htx, dw⟩ : ∃ tx vw, x = .ref tx ∧ H3 tx = some (.tup [.int (r.1 : Int), vw, .int (r.2.2 : Int)]) ∧ Dt K MF H3 vw (tupI (ofN r.2.1)) := by
        have dx : Dt K (· = lf) H3 x (.tuple [.int (r.1 : Int), tupI (ofN r.2.1), .int (r.2.2 : Int)]) := dx
        cases dx with
        | tup w1 w2 =>
        cases w2 with
        | cons a1 w2 =>
        cases w2 with
        | cons a2 w2 =>
        cases w2 with
        | cons a3 w2 =>
        cases w2
        cases a1
        cases a3
        exact ⟨_, _, rfl, w1, dt_any a2⟩
      refine ⟨_, _, rfl, SqT.of htx, rfl, _, _, rfl, _, _, rfl, _, _, rfl, rfl, ?_⟩
      refine q_asgP (K := K) (M := MF) (P := (· = .bool (fitsB r.2.1 k))) ((evd_eqD (n := 1) (m := 1) (d1 := intsD (((r.2.1.zip k).filter fun p => !decide (p.1 ∈ p.2)).map (·.1))) (d2 := .list []) (((evn_lcZM (bs := r.2.1) (cs := k) (fun (s : Nat) => .int (s : Int)) intsD (fun m ms => !decide (m ∈ ms)) (fun m _ => .int (m : Int)) okF ((evd_var (i := 5) rfl dw).mono fun d h => ?_) (evd_var (i := 2) rfl (hz.ex e3)) ?_ fun M' i b c x y T H' hM ok' hb hc e dx dy hT Qg qg =>
          ⟨_, _, rfl, SqT.of hT, rfl, _, _, rfl, _, _, rfl, rfl, qg _ H' (Ex.refl _) ⟨rfl, evt_test (K := K) (M := M') (evd_notInL (evd_var (i := 8) rfl dx) (evd_var (i := 9) rfl dy)), fun _ => evd_var (i := 8) rfl dx⟩⟩).data okF).mono fun d hd => ?_) (evd_lst okF eva_nil (by show 0 ≤ sizeLine; decide)) (flat_intsD _) (flat_intsD [])).mono fun d h => by rw [h, fits_nil]) fun v7 d7 H4 e4 dv7 p7 => ?_
      · rw [h]
        unfold tupI ofN
        rw [List.map_map]
        rfl
      · rw [g2]
        exact Nat.lt_of_le_of_lt hk2 (by decide)
      · obtain ⟨ds, rfl, rfl⟩ := hd
        unfold intsD ofN
        rw [List.map_map, List.map_map]
        rfl
      subst p7
      cases dv7
      have e34 := e3.trans e4
      have tk : G.rules.take (i + 1) = G.rules.take i ++ [r] := by rw [List.take_add_one, hr]; rfl
      refine s_when (b := decide (r.1 = s) && (fitsB r.2.1 k && !decide (r.2.2 ∈ ms))) (et_is (et_and (a := decide ((r.1 : Int) = (s : Int))) (evt_test (K := K) (M := MF) (evd_eqI (evd_var (i := 4) rfl (.int _)) (evd_var (i := 1) rfl (.int _)))) fun _ => et_and (a := fitsB r.2.1 k) (evt_B (K := K) (M := MF) (evd_var (i := 7) rfl (.bl _))) fun _ => evt_test (K := K) (M := MF) (evd_notInL (evd_var (i := 6) rfl (.int _)) (evd_var (i := 3) rfl (dt_numsQ (e4 _ _ hf3))))) ?_) (fun hb H5 e5 => ?_) (fun hb H5 e5 => ?_)
      · congr 1
        by_cases h : r.1 = s
        · rw [decide_eq_true h, decide_eq_true (by omega)]
        · rw [decide_eq_false h, decide_eq_false (by omega)]
      · rw [Bool.and_eq_true, Bool.and_eq_true, decide_eq_true_eq, Bool.not_eq_true', decide_eq_false_iff_not] at hb
        obtain ⟨b1, b2, b3⟩ := hb
        have hg : gruns s k r = true := by
          unfold gruns
          rw [b1, b2, decide_eq_true rfl]
          rfl
        refine s_appP (K := K) (M := MF) (i := 3) (xs := nums ms) (P := (· = .int (r.2.2 : Int))) ((e4.trans e5) _ _ hf3) rfl (evd_var (i := 6) rfl (.int _)) (by rw [nums_len]; exact Nat.lt_of_le_of_lt (show ms.length ≤ 30 by omega) (by decide)) fun v8 d8 H6 e6 dv8 p8 => ?_
        subst p8
        cases dv8
        have e36 := (e4.trans e5).trans e6
        refine ⟨Ex.mut (e3.trans e36) hlf, by rw [upd_ne hne]; exact e36 _ _ hr3, (d3.ex e36).upd (e36 _ _ hf3) rfl, _, _, _, _, ms ++ [r.2.2], rfl, by rw [upd_same, nums_app]; rfl, ?_, by rw [List.length_append]; show ms.length + 1 ≤ i + 1; omega, fun m => ?_⟩
        · refine List.nodup_append.mpr ⟨nd, by simp, fun a ha b hb e => ?_⟩
          rw [List.mem_singleton.mp hb] at e
          rw [e] at ha
          exact b3 ha
        · rw [tk, List.mem_append, hms, List.mem_singleton]
          constructor
          · rintro (⟨r', h1, h2⟩ | rfl)
            · exact ⟨r', List.mem_append_left _ h1, h2⟩
            · exact ⟨r, List.mem_append_right _ List.mem_cons_self, hg, rfl⟩
          · rintro ⟨r', h1, h2, h3⟩
            rcases List.mem_append.mp h1 with h1 | h1
            · exact .inl ⟨r', h1, h2, h3⟩
            · rw [List.mem_singleton.mp h1] at h3
              exact .inr h3.symm
      · have e35 := e4.trans e5
        refine ⟨e3.trans e35, e35 _ _ hr3, d3.ex e35, _, _, _, _, ms, rfl, e35 _ _ hf3, nd, by omega, fun m => ?_⟩
        rw [tk, hms]
        constructor
        · rintro ⟨r', h1, h2⟩
          exact ⟨r', List.mem_append_left _ h1, h2⟩
        · rintro ⟨r', h1, h2, h3⟩
          rcases List.mem_append.mp h1 with h1 | h1
          · exact ⟨r', h1, h2, h3⟩
          · rw [List.mem_singleton.mp h1] at h2 h3
            have hin : r.2.2 ∈ ms := Classical.byContradiction fun hn => by
              unfold gruns at h2
              rw [Bool.and_eq_true] at h2
              rw [h2.1, h2.2, decide_eq_false hn] at hb
              cases hb
            rw [← h3]
            exact (hms _).mp hin
    · rintro σ' H3 ⟨e3, hr3, d3, u4, u5, u6, u7, ms, rfl, hf3, nd, hle, hms⟩
      have hxl : xr.length = G.rules.length := by rw [h3.length, List.length_map]
      rw [hxl, List.take_length] at hms
      refine ⟨_, rfl, lf, ofN ms, rfl, sq_of (by rw [hf3, nums_of]), fun ns' p hp hso hpn => ?_⟩
      have nd' : ns'.Nodup := hp.nodup_iff.mpr (nodup_ofN nd)
      have e := glead_of g (s := s) (k := k) (sort_ltI hso nd') fun m => by
        rw [hp.mem_iff, mem_ofN]
        constructor
        · rintro ⟨x, hx, rfl⟩
          obtain ⟨r, h1, h2, h3⟩ := (hms x).mp hx
          exact ⟨r, h1, h2, by rw [h3]⟩
        · rintro ⟨r, h1, h2, rfl⟩
          exact ⟨_, (hms _).mpr ⟨r, h1, h2, rfl⟩, rfl⟩
      subst e
      exact q p _ (fresh_back e3 hpn) (e3.trans (Ex.new hpn)) (by rw [upd_same, nums_of])
end
end TH
set_option maxRecDepth 100000
set_option maxHeartbeats 4000000
namespace TH
open PySem L2 Evl RZ
theorem pe_bm0L {X : Cx} {K : PySem.W.Frag} {o : Expr} {to : TE} {name : Str} {apos cpos : Pos} {T id : String} {r : V → List V → Hp → VK → Prop} (hK : X.K = K) (pa : PySem.PlainAttrs T) (slot : Slot T name id) (hty : typeOf (.builtin id) = pure (.type "method_descriptor")) (hm : MtR X id r) (ho : PE X o to)
    (hbase : attributeBase o name X.env (eval o X.env) = eval o X.env := by rfl) (hline : (apos.endLine == cpos.line) = true := by rfl) : PE X (.Call (.Attribute o name apos) [] [] cpos) (tBM0 K T r to) := by
  subst hK
  exact pe_bm0 pa slot hty hm ho hbase hline
theorem kidsNum {S : List Sg} (hK : KidsOk S) {t : Tr} (hO : OkT S t) : ∃ r, S[t.root]? = some r ∧ r.2 = (t.kids.length : Int) := by
  have hrt : t.root < S.length := hO.root
  have hSr : S[t.root]? = some (S[t.root]'hrt) := List.getElem?_eq_getElem hrt
  refine ⟨_, hSr, ?_⟩
  have h1 := hO.ark
  rw [ks_of hSr] at h1
  have := hK _ (List.mem_of_getElem? hSr)
  omega
theorem okTsuf {S : List Sg} {t u : Tr} {us : List Tr} {n : Nat} (hO : OkT S t) (h : Tr.suf n [t] = u :: us) : OkT S u :=
  Tr.okF_suf n (ts := [t]) (fun x hx => by rw [List.mem_singleton.mp hx]; exact hO) u (by rw [h]; exact List.mem_cons_self)
theorem woodLen : ∀ ts : List Tr, ts.length ≤ Tr.sizeF ts
  | [] => Nat.le_refl _
  | t :: ts => by
    rw [Tr.sizeF_cons, List.length_cons]
    have := Tr.size_pos t
    have := woodLen ts
    omega
/-- the lists of moods that wait, the last one first -/
def waitG (G : Gp) (ts : List Tr) : List (List Nat) := (ts.map (gmoods G)).reverse
theorem waitG_cons (G : Gp) (t : Tr) (ts : List Tr) : waitG G (t :: ts) = waitG G ts ++ [gmoods G t] := by
  unfold waitG
  rw [List.map_cons, List.reverse_cons]
theorem waitG_len (G : Gp) (ts : List Tr) : (waitG G ts).length = ts.length := by
  unfold waitG
  rw [List.length_reverse, List.length_map]
theorem dts_snoc {K : PySem.W.Frag} {M : Addr → Prop} {H : Hp} : ∀ {ds : List PyData} {ys : List V} {d : PyData}, Dts K M H ys (ds ++ [d]) → ∃ zs v, ys = zs ++ [v] ∧ Dts K M H zs ds ∧ Dt K M H v d
  | [], ys, d, h => by
    cases h with
    | cons a b =>
      cases b
      exact ⟨[], _, rfl, .nil, a⟩
  | e :: ds, ys, d, h => by
    cases h with
    | cons a b =>
      obtain ⟨zs, v, rfl, h1, h2⟩ := dts_snoc b
      exact ⟨_ :: zs, v, rfl, .cons a h1, h2⟩
theorem Dts.avoid {K : PySem.W.Frag} {M M' : Addr → Prop} {H : Hp} {vs : List V} {ds : List PyData} (h : Dts K M H vs ds) (n : ∀ a, M' a → M a ∨ H a = none) : Dts K M' H vs ds :=
  Dts.move (fun a xs h k => ⟨h, fun z => (n a z).elim k fun e => by rw [e] at h; cases h⟩) (fun a xs h => h) ds vs h
section
variable {P : Program} {w : World} {K : PySem.W.Frag} {mg : Str → Option Value} {base : Heap}
abbrev nLMoods : List Str := ["_law_signs_here", "_law_plain", "_law_row_here", "_law_waiting", "_law_sign", "_law_kids", "_law_turn"]
theorem scLMoods : FnScope nLMoods ["_law_signs_here", "_law_plain", "_law_row_here"] (defScope sLMoods) := ⟨rfl, rfl, rfl, by decide +kernel, rfl, by decide +kernel, by decide +kernel⟩
theorem ok_lmoods {f : Addr} {fd : FuncData} (F : Fun K "_law_moods" "_law_moods" sLMoods f fd) (G : Glob mg) (GR : GlobR mg) (B : OneF P w K mg base "_law_lead" 1 ["_law_plain", "_law_sign", "_law_kids"] (spLLead K)) :
    FnOk P w K mg base CX0 2 f fd ["_law_signs_here", "_law_plain", "_law_row_here"] (spLMoods K) := by
  obtain ⟨f1, d1, m1, k1, g1, b1⟩ := B
  refine F.ok scLMoods (fun vs H Q E h => ?_) (fun cdv A outer s0 H vs Q E hr h => ?_)
  · obtain ⟨v, y, z, S, R, t, rfl, _⟩ := h
    rfl
  · obtain ⟨v, y, z, S, R, t, rfl, hv, hK, hy, gR, hz, hO, hN, q⟩ := h
    refine ⟨_, (pss_cons (ps_set (i := 3) scLMoods.nd rfl (.inr rfl) (pe_lst pa_nil))
      (pss_cons (ps_for PassesOwn.never rfl (RT.pi_revA (by rfl) GR.reversed (pv 2)) (pg_name (i := 4) scLMoods.nd rfl (.inl rfl))
      (pss_cons (ps_setLc (i := 5) (own := [("_law_turn", 6)]) (g := gName 6) (by rfl) scLMoods.nd rfl rfl (sw_true rfl rfl rfl (by decide +kernel)) (pi_range1 rfl G.range (pa_cons (pe_ix ix_tup (pe_ix ix_list (pv 0) (pv 4) (fun _ _ => rfl)) pe_int (fun _ _ => rfl)) pa_nil))
      (blkOk_by (N := nLMoods) (sc := defScope sLMoods) (by decide +kernel)) (fun _ _ _ _ _ => pg_name (i := 6) scLMoods.nd rfl (.inl rfl)) (fun _ _ _ _ _ => pts_nil)
      (fun _ _ _ _ _ => pe_bm0L (K := K) rfl PySem.F.plainAttrs_list PySem.F.slot_list_pop PySem.F.type_list_pop mt_pop (pv 3)))
      (pss_one (ps_expr (pe_bm PySem.F.plainAttrs_list PySem.F.slot_list_append PySem.F.type_list_append mt_append (pv 3) (pa_cons (pe_call g1 hr rfl m1 k1 b1 .nil pass0 (pa_cons (pv 1) (pa_cons (pv 4) (pa_cons (pv 5) pa_nil)))) pa_nil))))))
      (pss_one (ps_ret (pe_ix ix_list (pv 3) (pe_un un_neg pe_int) (fun _ _ => rfl)))))), ?_⟩
    obtain ⟨a, rfl, hS⟩ := dt_tupS hz
    have hlen : ((ofN t.row).map V.int).length = t.size := by rw [List.length_map, ofN_len]; rfl
    refine q_asgE fun lw hw => ?_
    have e1 : Ex H (upd H lw (.lst [])) := Ex.new hw
    have hw1 : (upd H lw (.lst [])) lw = some (.lst []) := upd_same
    generalize upd H lw (.lst []) = H1 at e1 hw1
    refine ⟨_, rfl, a, _, rfl, .inr ⟨SqT.of (e1 _ _ hS), RT.for_ItvT (fun i σ' H' => Ex H H' ∧ ∃ u4 u5 u6 ys, σ' = [some v, some y, some (.ref a), some (.ref lw), u4, u5, u6] ∧ H' lw = some (.lst ys) ∧ Dts K (fun b => b = lw ∨ H b ≠ none) H' ys ((waitG R (Tr.suf (t.size - i) [t])).map intsD) ∧ i ≤ t.size)
      ⟨e1, none, none, none, [], rfl, hw1, ?_, Nat.zero_le _⟩ (fun i σ' H' h => SqT.of (h.1 _ _ hS)) ?_ ?_⟩⟩
    · rw [Nat.sub_zero, Tr.suf_nil.mpr (by rw [Tr.size_one]; exact Nat.le_refl _)]
      exact .nil
    · rintro i x σ' H2 hi hx ⟨e2, u4, u5, u6, ys, rfl, hw2, dw2, _⟩
      rw [hlen] at hi hx
      have hpN : t.size - 1 - i < Tr.sizeF [t] := by rw [Tr.size_one]; omega
      obtain ⟨u, us, hu, hroot⟩ := Tr.suf_cons hpN
      generalize hp : t.size - 1 - i = p' at hpN hu hroot hx
      have e0 : t.size - i = p' + 1 := by omega
      rw [Tr.row_one] at hroot
      have hx' : ((ofN t.row).map V.int)[p']? = some (.int (u.root : Int)) := by rw [List.getElem?_map, ofN_at hroot]; rfl
      rw [hx'] at hx
      cases hx
      have hOu : OkT S u := okTsuf hO hu
      have hsuc : Tr.suf (p' + 1) [t] = u.kids ++ us := by rw [Tr.suf_succ, hu]; rfl
      rw [e0, hsuc] at dw2
      obtain ⟨r, hr1, hr2⟩ := kidsNum hK hOu
      have hk2 := Tr.kids_le u
      have hul : us.length + 1 ≤ t.size := by
        have h1 := woodLen (Tr.suf p' [t])
        have h2 := Tr.rowF_suf p' [t]
        have h3 : Tr.sizeF (Tr.suf p' [t]) ≤ t.size := by
          unfold Tr.sizeF
          rw [h2, List.length_drop, Tr.row_one]
          exact Nat.sub_le _ _
        rw [hu, List.length_cons] at h1
        rw [hu] at h3
        omega
      -- the kids' moods are taken from what waits
      refine (evd_ar (K := K) (M := MF) (te := tVar 4) (σ := [some v, some y, some (.ref a), some (.ref lw), some (.int (u.root : Int)), u5, u6]) (i := 0) (k := 0) (j := u.root) rfl (hv.ex e2) (evd_var rfl (.int _)) rfl hr1).use fun vz dz H3 e3 dvz pz => ?_
      subst pz
      cases dvz
      have hw3 := e3 _ _ hw2
      have e23 := e2.trans e3
      refine ⟨r.2, rfl, by omega, by omega, fun A hA => ?_⟩
      have hne : lw ≠ A := ne_of_none hw3 hA
      have hAH : H A = none := fresh_back e23 hA
      have hw4 : (upd H3 A (.lst [])) lw = some (.lst ys) := by rw [upd_ne hne]; exact hw3
      have hA4 : (upd H3 A (.lst [])) A = some (.lst []) := upd_same
      have e4 : Ex H (upd H3 A (.lst [])) := e23.trans (Ex.new hA)
      have dw3 : Dts K (fun b => (b = lw ∨ H b ≠ none) ∨ b = A) H3 ys ((waitG R (u.kids ++ us)).map intsD) := (dw2.ex e3).avoid fun b m => m.imp id fun h => by rw [h]; exact hA
      have dw4 := dw3.ex (Ex.new (o := .lst []) hA)
      refine lc_it (n := u.kids.length) (by rw [hr2, Int.toNat_natCast]; exact walk_range) (fun j H' => Ex H H' ∧ ∃ ys zs, H' lw = some (.lst ys) ∧ Dts K (fun b => (b = lw ∨ H b ≠ none) ∨ b = A) H' ys ((waitG R (u.kids.drop j ++ us)).map intsD) ∧ H' A = some (.lst zs) ∧ Dts K (fun b => (b = lw ∨ H b ≠ none) ∨ b = A) H' zs (((u.kids.take j).map (gmoods R)).map intsD))
        ⟨e4, ys, [], hw4, by rw [List.drop_zero]; exact dw4, hA4, .nil⟩ (fun _ _ _ _ => trivial) (fun j x H' H'' hj ⟨e5, ys, zs, hw5, dw5, hA5, dA5⟩ hyy => ?_) (fun H' ⟨e5, ys, zs, hw5, dw5, hA5, dA5⟩ => ?_)
      · obtain ⟨rfl, rfl⟩ := hyy
        have hk : u.kids[j]? = some (u.kids[j]'hj) := List.getElem?_eq_getElem _
        generalize u.kids[j]'hj = k at hk
        have hd : u.kids.drop j = k :: u.kids.drop (j + 1) := by
          obtain ⟨h1, h2⟩ := List.getElem?_eq_some_iff.mp hk
          rw [List.drop_eq_getElem_cons h1, h2]
        rw [hd, List.cons_append, waitG_cons, List.map_append] at dw5
        obtain ⟨yr, yk, rfl, dyr, dyk⟩ := dts_snoc dw5
        have hlast : (yr ++ [yk])[(yr ++ [yk]).length - 1]? = some yk := by
          rw [List.length_append, show [yk].length = 1 from rfl, Nat.add_sub_cancel, List.getElem?_append_right (Nat.le_refl _), Nat.sub_self]
          rfl
        refine ⟨rfl, iteT (B := Ex H H'' ∧ ∃ ys zs, H'' lw = some (.lst ys) ∧ Dts K (fun b => (b = lw ∨ H b ≠ none) ∨ b = A) H'' ys ((waitG R (u.kids.drop (j + 1) ++ us)).map intsD) ∧ H'' A = some (.lst zs) ∧ Dts K (fun b => (b = lw ∨ H b ≠ none) ∨ b = A) H'' zs (((u.kids.take (j + 1)).map (gmoods R)).map intsD)) ?_⟩
        refine ⟨_, rfl, .inl ⟨rfl, _, SqL.of hw5⟩, lw, _, _, rfl, rfl, hw5, hlast, ?_⟩
        have hA6 : (upd H'' lw (.lst (yr ++ [yk]).dropLast)) A = some (.lst zs) := by rw [upd_ne (Ne.symm hne)]; exact hA5
        refine ⟨_, hA6, by rw [dA5.length, List.length_map, List.length_map, List.length_take]; exact Nat.lt_of_le_of_lt (show _ ≤ 2 by omega) (by decide), Ex.mut (Ex.mut e5 hw) hAH, yr, zs ++ [yk], ?_, ?_, upd_same, ?_⟩
        · rw [upd_ne hne, upd_same]
          congr 2
          exact List.dropLast_concat
        · exact (dyr.upd hw5 (.inl (.inl rfl))).upd hA6 (.inr rfl)
        · rw [Tr.take_snoc hk, List.map_append, List.map_append]
          exact ((dA5.append (.one dyk)).upd hw5 (.inl (.inl rfl))).upd hA6 (.inr rfl)
      · rw [List.take_length] at dA5
        rw [List.drop_length, List.nil_append] at dw5
        refine ⟨_, rfl, .inl ⟨rfl, _, SqL.of hw5⟩, ?_⟩
        refine evd_llead (s := u.root) (evd_var (i := 1) rfl (hy.ex e5)) (evd_var (i := 4) rfl (.int _)) (evd_var (i := 5) rfl (.lst hA5 (fun z => z) (dA5.weak fun _ h => h.elim))) gR hK fun l1 H6 hl1 e6 hl6 => ?_
        have hw6 := e6 _ _ hw5
        refine ⟨lw, _, _, rfl, rfl, hw6, by rw [dw5.length, List.length_map, waitG_len]; exact Nat.lt_of_le_of_lt (show us.length ≤ 1000 by omega) (by decide), ?_⟩
        refine ⟨Ex.mut (e5.trans e6) hw, _, _, _, ys ++ [.ref l1], rfl, upd_same, ?_, hi⟩
        rw [show t.size - (i + 1) = p' by omega, hu, waitG_cons, List.map_append]
        refine (((dw5.weak fun _ h => .inl h).ex e6).append (.one ?_)).upd hw6 (.inl rfl)
        have : gleadN R u.root (u.kids.map (gmoods R)) = gmoods R u := (gmoods_eq R u).symm
        rw [this] at hl6
        refine .lst hl6 (fun h => ?_) (nums_dts _)
        rcases h with h | h
        · rw [h, hw5] at hl1
          cases hl1
        · exact h (fresh_back e5 hl1)
    · rintro σ' H2 ⟨e2, u4, u5, u6, ys, rfl, hw2, dw2, _⟩
      rw [hlen, Nat.sub_self] at dw2
      have dw2 : Dts K (fun b => b = lw ∨ H b ≠ none) H2 ys [intsD (gmoods R t)] := dw2
      cases dw2 with
      | cons d1 d2 =>
      cases d2
      obtain ⟨l, rfl, hl, hnm⟩ := dt_listN d1
      exact ⟨_, rfl, 1, rfl, lw, _, _, _, rfl, rfl, SqL.of hw2, rfl, q l H2 (Classical.byContradiction fun h => hnm (.inr h)) e2 hl⟩
end
end TH
set_option maxRecDepth 100000
set_option maxHeartbeats 4000000
namespace TH
open PySem L2 Evl
/-! ### which lists are books -/
theorem ca : ("a" : Str).cps.toList = [97] := by decide +kernel
theorem cz : ("z" : Str).cps.toList = [122] := by decide +kernel
theorem okc_iff (c : Nat) : okc c = true ↔ 97 ≤ c ∧ c ≤ 122 := by
  unfold okc
  rw [ca, cz]
  simp only [Bool.and_eq_true, Bool.not_eq_true', decide_eq_false_iff_not, List.cons_lt_cons_iff, List.not_lt_nil, and_false, or_false]
  omega
theorem nameB_iff (z : Str) : isNameB z = true ↔ NameOk z := by
  unfold isNameB
  simp only [Bool.and_eq_true, decide_eq_true_eq, List.all_eq_true, okc_iff]
  constructor
  · rintro ⟨⟨h1, h2⟩, h3⟩
    exact ⟨by omega, by omega, h3⟩
  · rintro ⟨h1, h2, h3⟩
    exact ⟨⟨by omega, by omega⟩, h3⟩
theorem nodup_key (S : List Sg) : (S.map fun p => (Sum.inr p.1 : Key)).Nodup ↔ (S.map (·.1)).Nodup := by
  have e : (S.map fun p => (Sum.inr p.1 : Key)) = (S.map (·.1)).map Sum.inr := by rw [List.map_map]; rfl
  rw [e]
  constructor
  · intro h
    exact List.Pairwise.of_map Sum.inr (fun a b hab e => hab (by rw [e])) h
  · intro h
    exact List.Pairwise.map _ (fun a b hab e => hab (Sum.inr.inj e)) h
theorem valid_split (S : List Sg) : validB S = true ↔ (1 ≤ S.length ∧ S.length ≤ 6) ∧ (∀ p ∈ S, isSignB p = true) ∧ (S.map (·.1)).Nodup ∧ ∃ p ∈ S, p.2 = 0 := by
  unfold validB
  have h := sall_lt (S.map fun p => (Sum.inr p.1 : Key))
  rw [List.length_map] at h
  have h2 : ((sall (S.map fun p => (Sum.inr p.1 : Key))).2 : Int) < (S.length : Int) ↔ ¬ (S.map (·.1)).Nodup := by
    rw [← nodup_key, ← h]
    exact Int.ofNat_lt
  simp only [Bool.and_eq_true, decide_eq_true_eq, List.all_eq_true, Bool.not_eq_true', decide_eq_false_iff_not, List.any_eq_true]
  rw [h2, Classical.not_not]
  constructor
  · rintro ⟨⟨a, b⟩, c, d, e⟩
    exact ⟨⟨by omega, by omega⟩, c, d, e⟩
  · rintro ⟨⟨a, b⟩, c, d, e⟩
    exact ⟨⟨by omega, by omega⟩, c, d, e⟩
theorem sign_iff (p : Sg) : isSignB p = true ↔ NameOk p.1 ∧ 0 ≤ p.2 ∧ p.2 ≤ 2 := by
  unfold isSignB
  simp only [Bool.and_eq_true, decide_eq_true_eq, nameB_iff]
theorem valid_good {S : List Sg} (h : Good S) : validB S = true := by
  rw [valid_split]
  exact ⟨⟨h.ne, h.len⟩, fun p hp => (sign_iff p).mpr ⟨h.name p hp, h.kids p hp⟩, h.nd, h.leaf⟩
theorem bad_of {S : List Sg} (h : ¬ ((1 ≤ S.length ∧ S.length ≤ 6) ∧ (∀ p ∈ S, isSignB p = true) ∧ (S.map (·.1)).Nodup ∧ ∃ p ∈ S, p.2 = 0)) : validB S = false := by
  rw [← Bool.not_eq_true, valid_split]
  exact h
theorem bad_sign {S : List Sg} {p : Sg} (hp : p ∈ S) (h : ¬ (NameOk p.1 ∧ 0 ≤ p.2 ∧ p.2 ≤ 2)) : validB S = false :=
  bad_of fun z => h ((sign_iff p).mp (z.2.1 p hp))
/-- what may be told again and held against another -/
structure Sane (S : List Sg) : Prop where
  len : S.length ≤ 100
  name : ∀ q ∈ S, q.1.length ≤ 1000
  ok : ∀ q ∈ S, PyData.strOk q.1 = true
theorem strOk_iff (z : Str) : PyData.strOk z = true ↔ ∀ c ∈ z.cps.toList, c < 0x110000 := by
  unfold PyData.strOk
  rw [← Array.all_toList, List.all_eq_true]
  simp only [decide_eq_true_eq]
theorem NameOk.strOk {z : Str} (h : NameOk z) : PyData.strOk z = true := by
  rw [strOk_iff]
  intro c hc
  have := (h.az c hc).2
  omega
theorem Good0.sane {S : List Sg} (h : Good0 S) : Sane S :=
  ⟨Nat.le_trans h.len (by decide), fun q hq => Nat.le_trans (h.name q hq).hi (by decide), fun q hq => (h.name q hq).strOk⟩
theorem Sane.append {S T : List Sg} (h : Sane S) (k : Sane T) (hl : S.length + T.length ≤ 100) : Sane (S ++ T) :=
  ⟨by rw [List.length_append]; exact hl, fun q hq => (List.mem_append.mp hq).elim (h.name q) (k.name q), fun q hq => (List.mem_append.mp hq).elim (h.ok q) (k.ok q)⟩
theorem Sane.sub {S T : List Sg} (h : Sane S) (hs : ∀ q ∈ T, q ∈ S) (hl : T.length ≤ 100) : Sane T := ⟨hl, fun q hq => h.name q (hs q hq), fun q hq => h.ok q (hs q hq)⟩
theorem Sane.one {q : Sg} (h1 : q.1.length ≤ 1000) (h2 : PyData.strOk q.1 = true) : Sane [q] :=
  ⟨by show 1 ≤ 100; decide, fun r hr => by rw [List.mem_singleton.mp hr]; exact h1, fun r hr => by rw [List.mem_singleton.mp hr]; exact h2⟩
/-- one sign of the list otherwise -/
def bent (S : List Sg) (j : Nat) (q : Sg) : List Sg := S.take j ++ [q] ++ S.drop (j + 1)
theorem bent_mem (S : List Sg) (j : Nat) (q : Sg) : q ∈ bent S j q := by
  unfold bent
  exact List.mem_append_left _ (List.mem_append_right _ (List.mem_singleton.mpr rfl))
theorem Sane.bent {S : List Sg} {j : Nat} {q : Sg} (h : Sane S) (hl : S.length ≤ 50) (h1 : q.1.length ≤ 1000) (h2 : PyData.strOk q.1 = true) : Sane (bent S j q) := by
  have h3 := Sane.one h1 h2
  unfold TH.bent
  have l1 : (S.take j).length ≤ 50 := Nat.le_trans (by rw [List.length_take]; exact Nat.min_le_right _ _) hl
  have l2 : (S.drop (j + 1)).length ≤ 49 := by rw [List.length_drop]; omega
  refine ((h.sub (fun q hq => List.mem_of_mem_take hq) (by omega)).append h3 ?_).append (h.sub (fun q hq => List.mem_of_mem_drop hq) (by omega)) ?_
  · show (S.take j).length + 1 ≤ 100
    omega
  · rw [List.length_append]
    show (S.take j).length + 1 + (S.drop (j + 1)).length ≤ 100
    omega
/-- parts of lists -/
theorem cutG_take {α : Type} (xs : List α) (j : Nat) : cutG xs none (some (j : Int)) = xs.take j := by
  unfold cutG
  rw [HT.sIx_none, HT.sIx_nat, List.drop_zero, Nat.sub_zero, List.take_eq_take_min]
  rw [Nat.min_assoc, Nat.min_self, ← List.take_eq_take_min]
theorem cutG_drop {α : Type} (xs : List α) (j : Nat) : cutG xs (some (j : Int)) none = xs.drop j := by
  unfold cutG
  rw [HT.sIx_none, HT.sIx_nat]
  by_cases h : j ≤ xs.length
  · rw [Nat.min_eq_left h]
    exact List.take_of_length_le (by rw [List.length_drop]; omega)
  · rw [Nat.min_eq_right (by omega), List.drop_eq_nil_of_le (Nat.le_refl _), List.drop_eq_nil_of_le (by omega), List.take_nil]
theorem cutS_len (z : Str) (lo hi : Option Int) : (cutS z lo hi).length ≤ z.length := by
  show (cutS z lo hi).cps.size ≤ _
  unfold cutS
  rw [List.size_toArray, List.length_take, List.length_drop, Array.length_toList]
  show _ ≤ z.cps.size
  omega
theorem cutS_mem (z : Str) (lo hi : Option Int) : ∀ c ∈ (cutS z lo hi).cps.toList, c ∈ z.cps.toList := by
  intro c hc
  exact List.mem_of_mem_drop (List.mem_of_mem_take hc)
theorem app_len (x y : Str) : (x ++ y).length = x.length + y.length := by
  show (x ++ y).cps.size = _
  rw [Str.cps_append, Array.size_append]
  rfl
theorem app_mem (x y : Str) (c : Nat) : c ∈ (x ++ y).cps.toList ↔ c ∈ x.cps.toList ∨ c ∈ y.cps.toList := by
  rw [Str.cps_append, Array.toList_append, List.mem_append]
theorem strOk_app {x y : Str} (h : PyData.strOk x = true) (k : PyData.strOk y = true) : PyData.strOk (x ++ y) = true := by
  rw [strOk_iff] at *
  intro c hc
  rcases (app_mem x y c).mp hc with hc | hc
  · exact h c hc
  · exact k c hc
theorem strOk_cut {x : Str} (lo hi : Option Int) (h : PyData.strOk x = true) : PyData.strOk (cutS x lo hi) = true := by
  rw [strOk_iff] at *
  exact fun c hc => h c (cutS_mem x lo hi c hc)
end TH
set_option maxRecDepth 100000
set_option maxHeartbeats 4000000
namespace TH
open PySem L2 Evl RZ
theorem lik_riseG (m : Nat) : ∀ (r : List Nat) (b : Int), (∀ x ∈ r, b < (x : Int)) → r.Pairwise (· < ·) → (∀ x ∈ r, x < m) → likB (m : Int) b (ofN r) = true
  | [], _, _, _, _ => rfl
  | x :: r, b, h0, h1, h2 => by
    show ((decide (b < (x : Int)) && decide ((x : Int) < (m : Int))) && likB (m : Int) (x : Int) (ofN r)) = true
    obtain ⟨h3, h4⟩ := List.pairwise_cons.mp h1
    rw [decide_eq_true (h0 x List.mem_cons_self), decide_eq_true (show (x : Int) < (m : Int) by have := h2 x List.mem_cons_self; omega), lik_riseG m r (x : Int) (fun y hy => by have := h3 y hy; omega) h4 fun y hy => h2 y (List.mem_cons_of_mem _ hy)]
    rfl
theorem gok_good {S : List Sg} {G : Gp} (g : GoodG S G) : gokB S (G.moods : Int) (G.rules.map toI) (ofN G.liked) = true := by
  have m1 := g.m1
  have m5 := g.m5
  have r1 := g.r1
  have r30 := g.r30
  unfold gokB
  have hl := lik_riseG G.moods G.liked (-1) (fun x _ => by omega) g.lik g.likm
  have hr : (G.rules.map toI).all (ruleB S (G.moods : Int)) = true := by
    rw [List.all_eq_true]
    intro r' hr'
    obtain ⟨r, hr, rfl⟩ := List.mem_map.mp hr'
    obtain ⟨h1, h2, h3, h4⟩ := g.rule r hr
    unfold ruleB toI
    dsimp only
    have ha : ((ofN r.2.1 ++ [(r.2.2 : Int)]).all fun x => decide (0 ≤ x) && decide (x < (G.moods : Int))) = true := by
      rw [List.all_eq_true]
      intro x hx
      rcases List.mem_append.mp hx with hx | hx
      · obtain ⟨y, hy, rfl⟩ := mem_ofN.mp hx
        have := h3 y hy
        rw [decide_eq_true (by omega), decide_eq_true (by omega)]
        rfl
      · rw [List.mem_singleton.mp hx, decide_eq_true (by omega), decide_eq_true (by omega)]
        rfl
    rw [ha, decide_eq_true (show (0 : Int) ≤ (r.1 : Int) by omega), decide_eq_true (show (r.1 : Int) < (S.length : Int) by omega), Int.toNat_natCast, ofN_len, h2, decide_eq_true rfl]
    rfl
  rw [hl, hr, decide_eq_true (show (1 : Int) ≤ (G.moods : Int) by omega), decide_eq_true (show (G.moods : Int) ≤ 5 by omega), List.length_map, decide_eq_true (show (1 : Int) ≤ (G.rules.length : Int) by omega), decide_eq_true (show (G.rules.length : Int) ≤ 30 by omega)]
  rfl
theorem rules_enc (rs : List Ru) : (rs.map toI).map ruI = rs.map ruD := by
  rw [List.map_map]
  rfl
theorem flat_ru (r : Ru) : Flat 2 (ruD r) := flat_tup fun d hd => by
  rcases List.mem_cons.mp hd with rfl | hd
  · exact ⟨rfl, Nat.zero_le _⟩
  · rcases List.mem_cons.mp hd with rfl | hd
    · exact flat_tupI _
    · rw [List.mem_singleton.mp hd]
      exact ⟨rfl, Nat.zero_le _⟩
theorem flat_rus (rs : List Ru) : Flat 3 (.list (rs.map ruD)) := flat_list fun d hd => by
  obtain ⟨r, _, rfl⟩ := List.mem_map.mp hd
  exact flat_ru r
/-- the rules told twice, cut -/
def twice (G : Gp) : Gp := ⟨G.moods, (G.rules ++ G.rules).take 30, G.liked⟩
theorem twice_good {S : List Sg} {G : Gp} (g : GoodG S G) : GoodG S (twice G) := by
  have r1 := g.r1
  refine ⟨g.m1, g.m5, ?_, ?_, fun r hr => ?_, g.lik, g.likm⟩
  · show 1 ≤ ((G.rules ++ G.rules).take 30).length
    rw [List.length_take, List.length_append]
    omega
  · show ((G.rules ++ G.rules).take 30).length ≤ 30
    rw [List.length_take]
    omega
  · rcases List.mem_append.mp (List.mem_of_mem_take hr) with h | h
    · exact g.rule r h
    · exact g.rule r h
theorem likd_any (G : Gp) (t : Tr) : PyData.eqv (intsD ((gmoods G t).filter fun m => decide (m ∈ G.liked))) (.list []) = !glikes G t := by
  unfold glikes
  rw [eqv_nil]
  by_cases h : ((gmoods G t).any fun m => decide (m ∈ G.liked)) = true
  · rw [h, decide_eq_false fun e => ?_]
    · rfl
    · obtain ⟨x, hx, hl⟩ := List.any_eq_true.mp h
      have : x ∈ (gmoods G t).filter fun m => decide (m ∈ G.liked) := List.mem_filter.mpr ⟨hx, hl⟩
      rw [e] at this
      cases this
  · rw [Bool.not_eq_true] at h
    rw [h, decide_eq_true]
    · rfl
    · rw [List.filter_eq_nil_iff]
      intro x hx hl
      rw [List.any_eq_false] at h
      exact h x hx hl
section
variable {K : PySem.W.Frag} {M M' Mb : Addr → Prop} {H H1 H' : Hp} {σ : L2.St} {ta tb tm tt tl te ts tx tc : TE} {E : XK} {CB CG CN CT pb b p : Addr} {S : List Sg} {G : Gp} {Q : VK} {i : Nat}
theorem evt_isList {l : Addr} {xs : List V} {t2 : TE} (hs : σ[i]? = some (some (.ref l))) (hl : H l = some (.lst xs)) (h2 : t2 = tC (.ty "list")) : EvT (tB (tCB (rIsi K) (tCons (tVar i) (tCons t2 tNil)))) σ H true := fun H1 e Q q => by
  subst h2
  exact ⟨_, hs, .ref l, .ty "list", .type "list", .type "list", true, rfl, .ty _, .base (.lst (e _ _ hl)), kit_ty (by decide +kernel), _, rfl, q H1 (Ex.refl _)⟩
theorem make_guess (ok : Ok M H) (hb : Ev tb σ H (.ref pb)) (hB : BookAt CB Mb H pb S) (hK : KidsOk S) (hm : EvD K M tm σ H (.int (G.moods : Int))) (ht : EvD K M tt σ H (.list (G.rules.map ruD))) (hl : EvD K M tl σ H (intsD G.liked)) (g : GoodG S G)
    (q : ∀ x H1 H', Ex H H1 → Ex H1 H' → H1 x = none → (∀ M', Ok M' H1 → BookAt CB M' H1 pb S → GuessAt K CB CG M' H' x S G) → Q (.ref x) H') : tMake CG (spGInit K CB CG CN) [] E (tCons tb (tCons tm (tCons tt (tCons tl tNil)))) σ H Q := by
  refine hb H (Ex.refl H) _ fun Ha ea => hm Ha ea _ fun vm dm Hb eb dvm pm => ht Hb (ea.trans eb) _ fun vt dt Hc ec dvt pt => hl Hc ((ea.trans eb).trans ec) _ fun vl dl Hd ed dvl pl x dx hx hdx hne => ?_
  subst pm pt pl
  cases dvm
  have e1 : Ex H Hd := (((ea.trans eb).trans ec).trans ed)
  have e2 : Ex Hd (upd (upd Hd dx (.own x)) x (.ins CG dx [])) := made_ex hx hdx hne
  have e12 := e1.trans e2
  have r30 := g.r30
  refine ⟨M, Mb, x, pb, dx, vt, vl, S, (G.moods : Int), G.rules.map toI, ofN G.liked, rfl, upd_same, hK, ok.ex e12, hB.ex e12, by rw [rules_enc]; exact dvt.ex (ed.trans e2), dvl.ex e2, by rw [List.length_map]; omega, fun r hr => ?_, fun _ H' hk => ⟨rfl, ?_⟩, fun hf => by rw [gok_good g] at hf; cases hf⟩
  · obtain ⟨r', hr', rfl⟩ := List.mem_map.mp hr
    obtain ⟨_, h2, _⟩ := g.rule r' hr'
    show (ofN r'.2.1).length ≤ 1000
    rw [ofN_len, h2]
    have := ks_le hK r'.1
    omega
  obtain ⟨dx', lr, ll, k1, k2, k3, k4⟩ := hk
  have e3 : Ex Hd H' := fun b o hb => k4 b o (e2 b o hb) (ne_of_none hb hx)
  refine q x Hd H' e1 e3 hx fun M' ok' hB' => ⟨dx', pb, lr, ll, k1, hB'.ex e3, ?_, ?_⟩
  · have := (k2.from fun b o h => ⟨o, e2 b o h⟩) M' ok'
    rw [rules_enc] at this
    exact this
  · exact (k3.from fun b o h => ⟨o, e2 b o h⟩) M' ok'
/-- draws -/
theorem evp_lguesser {most : Nat} (ok : Ok M H) (hb : Ev tb σ H (.ref b)) (hbox : H b = some (Box b)) (hs : EvD K MF ts σ H (.list (S.map sgD))) (hm : EvD K MF tm σ H (.int (most : Int))) (hK : KidsOk S) (hS1 : 1 ≤ S.length) (hS : S.length ≤ 100) (h1 : 1 ≤ most) (h5 : most ≤ 5) :
    EvP K M (tCall (spLGuesser K) [] E (tCons tb (tCons ts (tCons tm tNil)))) σ H (fun d => ∃ G, d = guD G ∧ GoodG S G) := fun H1 e Q q =>
  hb H1 e _ fun H2 e2 => hs H2 (e.trans e2) _ fun v d H3 e3 dv pd => hm H3 ((e.trans e2).trans e3) _ fun vm dm H4 e4 dvm pm => by
    subst pd pm
    cases dvm
    have e04 := ((e.trans e2).trans e3).trans e4
    exact ⟨b, v, S, most, rfl, e04 _ _ hbox, dv.ex e4, hK, hS1, hS, h1, h5, fun x G H5 e5 gG hG nd => q x _ H5 (((e2.trans e3).trans e4).trans e5) (nd M (ok.ex e04)) ⟨G, rfl, gG⟩⟩
theorem evq_lmoods {t : Tr} (ha : EvD K MF ta σ H (.list (S.map sgD))) (hb : EvD K MF tb σ H (guD G)) (hc : EvD K MF tc σ H (rowD t)) (hK : KidsOk S) (g : GoodG S G) (hO : OkT S t) (h : t.size ≤ 1000)
    (q : ∀ l H', H l = none → Ex H H' → H' l = some (.lst (nums (gmoods G t))) → Q (.ref l) H') : tCall (spLMoods K) [] E (tCons ta (tCons tb (tCons tc tNil))) σ H Q :=
  ha H (Ex.refl _) _ fun v1 d1 H2 e2 dv1 p1 => hb H2 e2 _ fun v2 d2 H3 e3 dv2 p2 => hc H3 (e2.trans e3) _ fun v3 d3 H4 e4 dv3 p3 => by
    subst p1 p2 p3
    exact ⟨v1, v2, v3, S, G, t, rfl, dv1.ex (e3.trans e4), hK, dv2.ex e4, g, dv3, hO, h, fun l H5 hl e5 hl5 => q l H5 (fresh_back ((e2.trans e3).trans e4) hl) (((e2.trans e3).trans e4).trans e5) hl5⟩
theorem gno {pb lt ll : Addr} {x : Str} (a : ¬ x = "_liked") (b : ¬ x = "_rules") (c : ¬ x = "_book") : (gflds pb lt ll).lookup x = none := gflds_no _ _ _ a b c
theorem evq_gof {t : Tr} (hs : σ[i]? = some (some (.ref p))) (hR : GuessAt K CB CG MF H p S G) (gR : GoodG S G) (hK : KidsOk S) (hx : EvD K MF tb σ H (rowD t)) (hO : OkT S t) (h40 : t.size ≤ 40)
    (q : ∀ l H', H l = none → Ex H H' → H' l = some (.lst (nums (gmoods G t))) → Q (.ref l) H') : tMeth CG "moods_of" (spGOf K CB CG CT) [] E (tVar i) (tCons tb tNil) σ H Q := by
  obtain ⟨dx, pb, lt, ll, h1⟩ := hR.ins
  refine ⟨_, hs, p, dx, _, rfl, h1, gno (by decide +kernel) (by decide +kernel) (by decide +kernel), hx H (Ex.refl _) _ fun v d H2 e2 dv pd => ?_⟩
  subst pd
  refine ⟨p, v, S, G, ofN t.row, rfl, hR.ex e2, gR, hK, dv, fun hb => ?_, fun u hu eu hu40 l H3 hl e3 h3 => ?_⟩
  · rw [treeB_row hO h40] at hb
    cases hb
  · have : t = u := row_inj hO hu eu
    subst this
    exact q l H3 (fresh_back e2 hl) (e2.trans e3) h3
theorem evd_glikes {t : Tr} (hs : σ[i]? = some (some (.ref p))) (hR : GuessAt K CB CG MF H p S G) (gR : GoodG S G) (hK : KidsOk S) (hx : EvD K MF tb σ H (rowD t)) (hO : OkT S t) (h40 : t.size ≤ 40) : EvD K M (tMeth CG "likes" (spGLikes K CB CG CT) [] E (tVar i) (tCons tb tNil)) σ H (.bool (glikes G t)) := fun H1 e Q q => by
  have h := hR.ex e
  obtain ⟨dx, pb, lt, ll, h1⟩ := h.ins
  refine ⟨_, hs, p, dx, _, rfl, h1, gno (by decide +kernel) (by decide +kernel) (by decide +kernel), hx H1 e _ fun v d H2 e2 dv pd => ?_⟩
  subst pd
  refine ⟨p, v, S, G, ofN t.row, rfl, h.ex e2, gR, hK, dv, fun hb => ?_, fun u hu eu hu40 H3 e3 => ?_⟩
  · rw [treeB_row hO h40] at hb
    cases hb
  · have : t = u := row_inj hO hu eu
    subst this
    exact q _ _ H3 (e2.trans e3) (.bl _) rfl
end
end TH
set_option maxRecDepth 100000
set_option maxHeartbeats 8000000
namespace TH
open PySem L2 Evl RZ
abbrev sLaw : Stmt := top 37
/-- a list of at most 63 ints is handed in, True comes out -/
def spLaw (K : PySem.W.Frag) : Sp := fun vs H Q _ => ∃ (a : Addr) (ns : List Int), vs = [.ref a] ∧ SqL K H a (ns.map V.int) ∧ ns.length ≤ 63 ∧ ∀ H', Q (.bl true) H'
structure GlobW (mg : Str → Option Value) : Prop extends GlobL mg where
  max : mg "max" = none
theorem cut30 {α : Type} (xs : List α) : cutG xs none (some 30) = xs.take 30 := by
  unfold cutG HT.sIx
  simp
theorem twice_enc (G : Gp) : PyData.tuple [.int (G.moods : Int), .list (cutG (G.rules.map ruD ++ G.rules.map ruD) none (some 30)), intsD G.liked] = guD (twice G) := by
  rw [cut30, ← List.map_append, ← List.map_take]
  rfl
def litF (G : Gp) : PyData → Bool
  | .int i => decide (i ∈ ofN G.liked)
  | _ => false
theorem lit_filter (G : Gp) : ∀ ms : List Nat, ((((ofN ms).map PyData.int).filter (litF G)).map id) = (ofN (ms.filter fun m => decide (m ∈ G.liked))).map PyData.int
  | [] => rfl
  | m :: ms => by
    have e : litF G (.int (m : Int)) = decide (m ∈ G.liked) := by
      have : ((m : Int) ∈ ofN G.liked) ↔ m ∈ G.liked := by
        rw [mem_ofN]
        constructor
        · rintro ⟨x, hx, e⟩
          have : x = m := by omega
          rw [← this]
          exact hx
        · intro h
          exact ⟨_, h, rfl⟩
      show decide ((m : Int) ∈ ofN G.liked) = _
      by_cases h : m ∈ G.liked
      · rw [decide_eq_true h, decide_eq_true (this.mpr h)]
      · rw [decide_eq_false h, decide_eq_false (fun z => h (this.mp z))]
    have ih := lit_filter G ms
    show (((PyData.int (m : Int) :: (ofN ms).map PyData.int).filter (litF G)).map id) = (ofN ((m :: ms).filter fun m => decide (m ∈ G.liked))).map PyData.int
    rw [List.filter_cons, List.filter_cons, e]
    by_cases h : m ∈ G.liked
    · rw [decide_eq_true h, if_pos rfl, if_pos rfl, List.map_cons, ih]
      rfl
    · rw [decide_eq_false h, if_neg (by decide), if_neg (by decide), ih]
section
variable {K : PySem.W.Frag} {M M' : Addr → Prop} {H H1 H' : Hp} {σ : L2.St}
/-- an item of a list that is known -/
theorem evd_at {i j : Nat} {l : Addr} {xs : List V} {v : V} {d : PyData} (hs : σ[i]? = some (some (.ref l))) (hl : H l = some (.lst xs)) (hx : xs[j]? = some v) (dv : Dt K M H v d) : EvD K M (tOp (rIxL K) (tVar i) (tC (.int (j : Int)))) σ H d := fun H1 e Q q =>
  ⟨_, hs, _, _, _, v, rfl, rfl, sq_of (e _ _ hl), atI_nat hx, q v d H1 (Ex.refl _) (dv.ex e) rfl⟩
end
section
variable {K : PySem.W.Frag} {M M' : Addr → Prop} {H H1 H' : Hp} {σ : L2.St} {ta tb te : TE} {D : Ends} {tz : TS} {P : PyData → Prop} {PA PB : PyData → Prop}
theorem q_setAt {i j : Nat} {l : Addr} {xs : List V} (hs : σ[i]? = some (some (.ref l))) (hl : H l = some (.lst xs)) (hj : j < xs.length) (h : EvP K M te σ H P) (k : ∀ v d H1, Ex H H1 → Dt K M H1 v d → P d → ∀ H2, H2 = upd H1 l (.lst (xs.set j v)) → tz D σ H2) :
    tSeq (tAsg te (gSub (tVar i) (tC (.int (j : Int))) rSetL)) tz D σ H := h.use fun v d H1 e dv pd => ⟨_, hs, l, xs, (j : Int), j, rfl, rfl, e _ _ hl, ixN_nat hj, k v d H1 e dv pd _ rfl⟩
theorem q_asgL2 {i : Nat} (ha : EvP K MF ta σ H PA) (hb : ∀ H1, Ex H H1 → EvP K MF tb σ H1 PB) (k : ∀ x a y b H1 H2, Ex H H1 → Ex H1 H2 → Dt K MF H1 x a → PA a → Dt K MF H2 y b → PB b → ∀ p, H2 p = none → ∀ H3, H3 = upd H2 p (.lst [x, y]) → tz D (σ.set i (some (.ref p))) H3) :
    tSeq (tAsg (tLst (tCons ta (tCons tb tNil))) (gName i)) tz D σ H := ha.use fun x a H1 e1 dx px => (hb H1 e1).use fun y b H2 e2 dy py => ⟨by show 2 ≤ sizeLine; decide, fun p hp => k x a y b H1 H2 e1 e2 dx px dy py p hp _ rfl⟩
end
section
variable {P : Program} {w : World} {K : PySem.W.Frag} {mg : Str → Option Value} {base : Heap} {CB CG CN CD CT : Addr}
abbrev nLaw : List Str := ["_law_script", "_law_k", "_law_box_here", "_law_signs_here", "_law_book", "_law_lots", "_law_rows", "_law_turn", "_law_guessers", "_law_plain", "_law_rules", "_law_liked", "_law_guesser_here", "_law_row_here", "_law_due", "_law_found", "_law_likes", "_law_mood"]
theorem scLaw : FnScope nLaw ["_law_script"] (defScope sLaw) := ⟨rfl, rfl, rfl, by decide +kernel, rfl, by decide +kernel, by decide +kernel⟩
theorem ok_law {f : Addr} {fd : FuncData} (F : Fun K "law" "law" sLaw f fd) (G : GlobW mg) (GE : GlobE mg) (GY : GlobY mg) (GI : GlobI mg)
    (GX : OneF P w K mg base "_law_box" 1 ["_law_script", "_law_k"] (spBox K)) (GT : OneF P w K mg base "_law_take" 2 ["_law_box_here", "_law_count"] spTake) (GS : OneF P w K mg base "_law_signs" 3 ["_law_box_here"] (spSigns K))
    (GR : OneF P w K mg base "_law_row" 3 ["_law_box_here", "_law_signs_here", "_law_most"] (spLRow K)) (GP : OneF P w K mg base "_law_guesser" 3 ["_law_box_here", "_law_signs_here", "_law_most"] (spLGuesser K))
    (GM : OneF P w K mg base "_law_moods" 2 ["_law_signs_here", "_law_plain", "_law_row_here"] (spLMoods K))
    (T : BookT K mg CB) (TG : GuesserT K mg CG)
    (M1 : OneMX P w K mg base CG "moods_of" 5 ["self", "tree"] (spGOf K CB CG CT)) (M2 : OneMX P w K mg base CG "likes" 6 ["self", "tree"] (spGLikes K CB CG CT))
    {fI : Addr} {fdI : FuncData} (mk : Mk K CB fI) (GIn : FnOk P w K mg base (L2.CX P w) 4 fI fdI ["self", "signs"] (spInit K CB CN)) (bI : Binds K fdI ["self", "signs"] [])
    {fJ : Addr} {fdJ : FuncData} (mkR : Mk K CG fJ) (GJ : FnOk P w K mg base (L2.CX P w) 4 fJ fdJ ["self", "book", "moods", "rules", "liked"] (spGInit K CB CG CD)) (bJ : Binds K fdJ ["self", "book", "moods", "rules", "liked"] []) :
    FnOk P w K mg base CX0 7 f fd ["_law_script"] (spLaw K) := by
  obtain ⟨fX, dX, mX, kX, gX, bX⟩ := GX
  obtain ⟨fT, dT, mT, kT, gT, bT⟩ := GT
  obtain ⟨fS, dS, mS, kS, gS, bS⟩ := GS
  obtain ⟨fR, dR, mR, kR, gR, bR⟩ := GR
  obtain ⟨fP, dP, mP, kP, gP, bP⟩ := GP
  obtain ⟨fE, dE, mE, kE, gE, bE⟩ := GM
  obtain ⟨f1, d1, m1, g1, b1⟩ := M1
  obtain ⟨f2, d2, m2, g2, b2⟩ := M2
  refine F.ok scLaw (fun vs H Q E h => ?_) fun cdv A outer s H vs Q E hr h => ?_
  · obtain ⟨a, ns, rfl, _⟩ := h
    rfl
  · obtain ⟨a, ns, rfl, hS, hlen, q⟩ := h
    have hr1 : Room 1 _ := hr.mono (show 1 ≤ 6 by decide)
    have hr2 : Room 2 _ := hr.mono (show 2 ≤ 6 by decide)
    have hr3 : Room 3 _ := hr.mono (show 3 ≤ 6 by decide)
    have hr5 : Room 5 _ := hr.mono (show 5 ≤ 6 by decide)
    have hu := hu64 hr
    refine ⟨_, (pss_cons (ps_for PassesOwn.never rfl (pi_range1 rfl G.range (pa_cons (pe_callB (call_max2 rfl) (by rfl) G.max (by decide +kernel) (pa_cons pe_int (pa_cons (pe_callB (call_min2 rfl) (by rfl) G.min (by decide +kernel) (pa_cons (pe_callB call_len_seq (by rfl) G.len PySem.boot_len (pa_cons (pv 0) pa_nil)) (pa_cons pe_int pa_nil))) pa_nil))) pa_nil)) (pg_name (i := 1) scLaw.nd rfl (.inl rfl))
      (pss_cons (ps_set (i := 2) scLaw.nd rfl (.inr rfl) (pe_call gX hr1 rfl mX kX bX .nil pass0 (pa_cons (pv 0) (pa_cons (pv 1) pa_nil))))
      (pss_cons (ps_set (i := 3) scLaw.nd rfl (.inr rfl) (pe_call gS hr3 rfl mS kS bS .nil pass0 (pa_cons (pv 2) pa_nil)))
      (pss_cons (ps_set (i := 4) scLaw.nd rfl (.inl rfl) (pe_make mk GIn hr5 rfl T.g bI .nil passL (pa_cons (pv 3) pa_nil)))
      (pss_cons (ps_set (i := 5) scLaw.nd rfl (.inl rfl) (pe_lst (pa_cons (pe_call gP hr3 rfl mP kP bP .nil pass0 (pa_cons (pv 2) (pa_cons (pv 3) (pa_cons pe_int pa_nil)))) (pa_cons (pe_call gP hr3 rfl mP kP bP .nil pass0 (pa_cons (pv 2) (pa_cons (pv 3) (pa_cons pe_int pa_nil)))) pa_nil))))
      (pss_cons (ps_asg (pe_tup (pa_cons (pe_ix ix_tup (pe_ix ix_list (pv 5) pe_int (fun _ _ => rfl)) pe_int (fun _ _ => rfl)) (pa_cons (pe_slice sl_list (pe_op op_cat (pe_ix ix_tup (pe_ix ix_list (pv 5) pe_int (fun _ _ => rfl)) pe_int (fun _ _ => rfl)) (pe_ix ix_tup (pe_ix ix_list (pv 5) pe_int (fun _ _ => rfl)) pe_int (fun _ _ => rfl))) po_none (po_some pe_int)) (pa_cons (pe_ix ix_tup (pe_ix ix_list (pv 5) pe_int (fun _ _ => rfl)) pe_int (fun _ _ => rfl)) pa_nil)))) (pg_sub (pv 5) pe_int set_list))
      (pss_cons (ps_setLc (i := 6) (own := [("_law_turn", 7)]) (g := gName 7) (by rfl) scLaw.nd rfl rfl (sw_true rfl rfl rfl (by decide +kernel)) (pi_range1 rfl G.range (pa_cons pe_int pa_nil))
      (blkOk_by (N := nLaw) (sc := defScope sLaw) (by decide +kernel)) (fun _ _ _ _ _ => pg_name (i := 7) scLaw.nd rfl (.inl rfl)) (fun _ _ _ _ _ => pts_nil)
      (fun _ _ _ _ _ => pe_call gR hr3 rfl mR kR bR .nil pass0 (pa_cons (pv 2) (pa_cons (pv 3) (pa_cons (pe_ix (ix_listK (K := K) rfl) (pe_lst (pa_cons pe_int (pa_cons pe_int (pa_cons pe_int (pa_cons pe_int pa_nil))))) (pe_call gT hr2 rfl mT kT bT .nil pass0 (pa_cons (pv 2) (pa_cons pe_int pa_nil))) (fun _ _ => rfl)) pa_nil)))))
      (pss_cons (ps_set (i := 8) scLaw.nd rfl (.inl rfl) (pe_lst pa_nil))
      (pss_cons (ps_for PassesOwn.never rfl (pi_list (pv 5)) (pg_name (i := 9) scLaw.nd rfl (.inr rfl))
      (pss_cons (ps_par (by rfl) scLaw.nd (i := 10) (j := 11) rfl rfl (by decide) rfl rfl (pa_cons (pe_callTy call_list_of (by rfl) GY.list (by decide +kernel) (pa_cons (pe_ix ix_tup (pv 9) pe_int (fun _ _ => rfl)) pa_nil)) (pa_cons (pe_callTy call_list_of (by rfl) GY.list (by decide +kernel) (pa_cons (pe_ix ix_tup (pv 9) pe_int (fun _ _ => rfl)) pa_nil)) pa_nil)) (by rfl))
      (pss_cons (ps_expr (pe_bm PySem.F.plainAttrs_list PySem.F.slot_list_append PySem.F.type_list_append mt_append (pv 8) (pa_cons (pe_make mkR GJ hr5 rfl TG.g bJ .nil passL (pa_cons (pv 4) (pa_cons (pe_ix ix_tup (pv 9) pe_int (fun _ _ => rfl)) (pa_cons (pv 10) (pa_cons (pv 11) pa_nil))))) pa_nil)))
      (pss_cons (ps_if (PW.pt (pw_or (pt_cmpR (op_neD hu) (pv 10) (pe_ix ix_tup (pv 9) pe_int (fun _ _ => rfl)) (nomark _)) (pw_or1 (pt_cmpR (op_neD hu) (pv 11) (pe_ix ix_tup (pv 9) pe_int (fun _ _ => rfl)) (nomark _))))) (pss_one (ps_ret pe_bl)) pss_nil)
      (pss_cons (ps_expr (pe_bm PySem.F.plainAttrs_list PySem.F.slot_list_append PySem.F.type_list_append mt_append (pv 10) (pa_cons (pe_tup (pa_cons pe_int (pa_cons (pe_tup pa_nil) (pa_cons pe_int pa_nil)))) pa_nil)))
      (pss_cons (ps_expr (pe_bm0 PySem.F.plainAttrs_list PySem.F.slot_list_reverse PySem.F.type_list_reverse mt_reverse (pv 10)))
      (pss_one (ps_expr (pe_bm PySem.F.plainAttrs_list PySem.F.slot_list_append PySem.F.type_list_append mt_append (pv 11) (pa_cons pe_int pa_nil))))))))))
      (pss_one (ps_for PassesOwn.never rfl (pi_range1 rfl G.range (pa_cons pe_int pa_nil)) (pg_name (i := 7) scLaw.nd rfl (.inl rfl))
      (pss_one (ps_for PassesOwn.never rfl (pi_zip (by rfl) GE.zip (pa_cons (pv 8) (pa_cons (pv 5) pa_nil))) (pg_tup rfl (pgs_cons (pg_name (i := 12) scLaw.nd rfl (.inl rfl)) (pgs_cons (pg_name (i := 9) scLaw.nd rfl (.inr rfl)) pgs_nil)))
      (pss_one (ps_for PassesOwn.never rfl (pi_list (pv 6)) (pg_name (i := 13) scLaw.nd rfl (.inl rfl))
      (pss_cons (ps_set (i := 14) scLaw.nd rfl (.inl rfl) (pe_call gE hr2 rfl mE kE bE .nil pass0 (pa_cons (pv 3) (pa_cons (pv 9) (pa_cons (pv 13) pa_nil)))))
      (pss_cons (ps_set (i := 15) scLaw.nd rfl (.inl rfl) (pe_meth (pv 12) TG.cl m1 g1 hr5 b1 .nil passL (pa_cons (pv 13) pa_nil)))
      (pss_cons (ps_set (i := 16) scLaw.nd rfl (.inl rfl) (pe_meth (pv 12) TG.cl m2 g2 hr b2 .nil passL (pa_cons (pv 13) pa_nil)))
      (pss_cons (ps_if (PW.pt (pw_or (pt_cmpR (op_neD hu) (pv 15) (pv 14) (nomark _)) (pw_or (pt_not (pt_val (pe_callB call_isi (by rfl) GI.isinstance (by decide +kernel) (pa_cons (pv 15) (pa_cons (pe_bltn (v := .ty "list") (by rfl) GY.list (by decide +kernel) rfl) pa_nil))))) (pw_or1 (pt_not (pt_val (pe_callB call_isi (by rfl) GI.isinstance (by decide +kernel) (pa_cons (pv 16) (pa_cons (pe_bltn (v := .ty "bool") (by rfl) GI.bool (by decide +kernel) rfl) pa_nil))))))))) (pss_one (ps_ret pe_bl)) pss_nil)
      (pss_cons (ps_if (pt_cmpR op_ne (pv 16) (pe_cmpR (op_neD hu) (pe_lc (own := [("_law_mood", 17)]) (g := gName 17) rfl scLaw.nd (pi_list (pv 14))
      (blkOk_by (N := nLaw) (sc := defScope sLaw) (by decide +kernel)) (fun _ _ _ _ _ => pg_name (i := 17) scLaw.nd rfl (.inl rfl)) (fun _ _ _ _ _ => pts_one (pt_cmpR (op_in_seqK (K := K) rfl) (pv 17) (pe_ix (ix_tupK (K := K) rfl) (pv 9) pe_int (fun _ _ => rfl)) (by rfl)))
      (fun _ _ _ _ _ => pv 17)) (pe_lst pa_nil) (nomark _)) (nomark _)) (pss_one (ps_ret pe_bl)) pss_nil)
      (pss_one (ps_expr (pe_bm PySem.F.plainAttrs_list PySem.F.slot_list_append PySem.F.type_list_append mt_append (pv 15) (pa_cons pe_int pa_nil))))))))))))))))))))))))
      (pss_one (ps_ret pe_bl))), ?_⟩
    have hl63 : (ns.map V.int).length ≤ 63 := by rw [List.length_map]; exact hlen
    refine ⟨_, rfl, _, _, rfl, .inl hS, _, _, rfl, _, _, rfl, _, rfl, ?_, ?_, ?_⟩
    · split <;> split <;> omega
    · split <;> split <;> omega
    have hnt : ∀ z : Int, z = (if (if (3 : Int) < ((ns.map V.int).length : Int) then 3 else ((ns.map V.int).length : Int)) > 1 then (if (3 : Int) < ((ns.map V.int).length : Int) then 3 else ((ns.map V.int).length : Int)) else 1) → z ≤ 3 := by
      intro z hz
      rw [hz]
      split <;> split <;> omega
    have hnt := hnt _ rfl
    generalize (if (if (3 : Int) < ((ns.map V.int).length : Int) then 3 else ((ns.map V.int).length : Int)) > 1 then (if (3 : Int) < ((ns.map V.int).length : Int) then 3 else ((ns.map V.int).length : Int)) else 1) = nt at hnt ⊢
    refine for_range (lo := 0) (n := nt.toNat) (fun i σ' H' => Ex H H' ∧ ∃ u1 u2 u3 u4 u5 u6 u7 u8 u9 u10 u11 u12 u13 u14 u15 u16 u17, σ' = [some (.ref a), u1, u2, u3, u4, u5, u6, u7, u8, u9, u10, u11, u12, u13, u14, u15, u16, u17])
      ⟨Ex.refl H, _, _, _, _, _, _, _, _, _, _, _, _, _, _, _, _, _, rfl⟩ ?_ (fun σ' H' ⟨_, u1, u2, u3, u4, u5, u6, u7, u8, u9, u10, u11, u12, u13, u14, u15, u16, u17, e⟩ => q H')
    rintro i σ' Hi hi ⟨eH, u1, u2, u3, u4, u5, u6, u7, u8, u9, u10, u11, u12, u13, u14, u15, u16, u17, rfl⟩
    -- the box, the signs, the book
    refine q_asgR ⟨_, rfl, _, rfl, a, ns, _, rfl, ex_l eH hS, by omega, by omega, fun b H1 hb e1 hbox => ?_⟩
    refine q_asgR ⟨_, rfl, b, rfl, hbox, fun l xs S H2 gS e2 hl hxs dS => ?_⟩
    have sS := gS.toGood0.sane
    have hsg : Dt K MF H2 (.ref l) (.list (S.map sgD)) := .lst hxs (fun z => z) dS.flat
    refine q_asgR (make_book (M := MF) okF (evd_var (i := 3) rfl hsg) (valid_good gS) sS.len (fun q hq => Nat.le_trans (sS.name q hq) (by decide)) fun x H3 e3 hB => ?_)
    have hbox3 := (e2.trans e3) _ _ hbox
    have hsg3 := hsg.ex e3
    have hK := gS.kidsOk
    have hS100 : S.length ≤ 100 := sS.len
    have hS1 : 1 ≤ S.length := gS.ne
    -- two guessers, told
    refine q_asgL2 (K := K) (PA := fun d => ∃ G, d = guD G ∧ GoodG S G) (PB := fun d => ∃ G, d = guD G ∧ GoodG S G) (evp_lguesser (most := 5) okF (ev_var (i := 2) rfl) hbox3 (evd_var (i := 3) rfl hsg3) evd_int hK hS1 hS100 (by decide) (by decide)) (fun Ha ea => evp_lguesser (most := 3) okF (ev_var (i := 2) rfl) (ea _ _ hbox3) (evd_var (i := 3) rfl (hsg3.ex ea)) evd_int hK hS1 hS100 (by decide) (by decide)) fun y1 d1 y2 d2 Ha Hb ea eb dy1 p1 dy2 p2 lo hlo Hc eHc => ?_
    obtain ⟨G1, rfl, gG1⟩ := p1
    obtain ⟨G2, rfl, gG2⟩ := p2
    have eHb : Ex H3 Hb := ea.trans eb
    have ebc : Ex Hb Hc := by rw [eHc]; exact Ex.new hlo
    have dy1 : Dt K (· = lo) Hc y1 (guD G1) := ((dy1.ex eb).avoid fun a m => .inr (by rw [m]; exact hlo)).ex ebc
    have dy2 : Dt K (· = lo) Hc y2 (guD G2) := (dy2.avoid fun a m => .inr (by rw [m]; exact hlo)).ex ebc
    have hloc : Hc lo = some (.lst [y1, y2]) := by rw [eHc]; exact upd_same
    clear eHc
    -- the second one's rules twice
    have it2 : ∀ {σ H'}, σ[5]? = some (some (.ref lo)) → Ex Hc H' → EvD K (· = lo) (tOp (rIxL K) (tVar 5) (tC (.int 1))) σ H' (guD G2) := fun h e => evd_at (j := 1) h (e _ _ hloc) rfl (dy2.ex e)
    have r30 := gG2.r30
    have okLo : Ok (· = lo) Hc := fun a m => by rw [m, hloc]; simp
    refine q_setAt (K := K) (M := (· = lo)) (i := 5) (j := 1) (P := (· = guD (twice G2))) rfl hloc (by show 1 < 2; decide) ((evd_tup (K := K) (M := (· = lo)) (eva_cons (evd_ixT (j := 0) (ds := [.int (G2.moods : Int), .list (G2.rules.map ruD), intsD G2.liked]) (it2 rfl (Ex.refl _)) evd_int rfl rfl) (eva_cons (evd_slL okLo (evd_cat okLo (evd_ixT (j := 1) (ds := [.int (G2.moods : Int), .list (G2.rules.map ruD), intsD G2.liked]) (it2 rfl (Ex.refl _)) evd_int rfl rfl) (evd_ixT (j := 1) (ds := [.int (G2.moods : Int), .list (G2.rules.map ruD), intsD G2.liked]) (it2 rfl (Ex.refl _)) evd_int rfl rfl) ?_) evo_none (evo_some evd_int)) (eva_cons (evd_ixT (j := 2) (ds := [.int (G2.moods : Int), .list (G2.rules.map ruD), intsD G2.liked]) (it2 rfl (Ex.refl _)) evd_int rfl rfl) eva_nil))) (by show 3 ≤ sizeLine; decide)).mono fun d h => by rw [h, twice_enc]) fun v2 d2 Hd ed dv2 pd2 H4 eH4 => ?_
    · rw [List.length_map]
      exact Nat.le_trans (show _ ≤ 60 by omega) (by decide)
    subst pd2
    have eH4 : H4 = upd Hd lo (.lst [y1, v2]) := eH4
    have hlod := ed _ _ hloc
    have e3e : Ex H3 H4 := by rw [eH4]; exact eHb.trans (Ex.mut (ebc.trans ed) hlo)
    have hy1 : Dt K MF H4 y1 (guD G1) := by rw [eH4]; exact ((dy1.ex ed).upd hlod rfl).weak fun _ h => h.elim
    have hy2 : Dt K MF H4 v2 (guD (twice G2)) := by rw [eH4]; exact (dv2.upd hlod rfl).weak fun _ h => h.elim
    have hlo4 : H4 lo = some (.lst [y1, v2]) := by rw [eH4]; exact upd_same
    clear eH4
    have gT := twice_good gG2
    generalize twice G2 = G3 at hy2 gT
    have hbox4 := e3e _ _ hbox3
    have hsg4 := hsg3.ex e3e
    -- ten trees
    refine q_asgN (K := K) (M := MF) (evn_lcRI (K := K) (M := MF) (n := 10) (fun i es => ∃ ts : List Tr, es = ts.map rowD ∧ ts.length = i ∧ ∀ t ∈ ts, OkT S t ∧ t.size ≤ 40) okF (eva_cons evd_int eva_nil) (by decide) ⟨[], rfl, rfl, fun t h => nomatch h⟩ (fun M' i es H' hm ok' hi hI e Qg qg => ?_)) fun lr xr ds H5 hlr e5 hlr5 dxr pI => ?_
    · obtain ⟨ts, rfl, hl, hts⟩ := hI
      refine qg _ H' (Ex.refl _) ⟨rfl, fun H5 e5 Q q => q true H5 (Ex.refl _) (fun _ => ?_) (fun h => nomatch h)⟩
      refine (evp_lrow (mx := 40) (ok'.ex e5) (ev_var (i := 2) rfl) ((e.trans e5) _ _ hbox4) (evd_var (i := 3) rfl ((hm _ _ hsg4).ex e5)) gS ((evp_pick (ns := [1, 4, 12, 40]) (evd_lst (ok'.ex e5) (eva_cons evd_int (eva_cons evd_int (eva_cons evd_int (eva_cons evd_int eva_nil)))) (by show 4 ≤ sizeLine; decide)) (ev_var (i := 2) rfl) ((e.trans e5) _ _ hbox4) evd_int rfl (by decide) (by decide)).mono fun d ⟨z, h1, h2⟩ => ?_) (by decide)).mono fun d ⟨t, h1, h2, h3⟩ => ⟨ts ++ [t], by rw [h1, List.map_append]; rfl, by rw [List.length_append, hl]; rfl, fun u hu => ?_⟩
      · have hz : z = 1 ∨ z = 4 ∨ z = 12 ∨ z = 40 := by simpa using h2
        exact ⟨z.toNat, by rw [h1, Int.toNat_of_nonneg (by omega)], by omega, by omega⟩
      · rcases List.mem_append.mp hu with hu | hu
        · exact hts u hu
        · rw [List.mem_singleton.mp hu]
          exact ⟨h2, h3⟩
    obtain ⟨ts, rfl, hl8, hts⟩ := pI
    have hrows : ∀ {H'}, Ex H5 H' → Dt K MF H' (.ref lr) (.list (ts.map rowD)) := fun e => .lst (e _ _ hlr5) (fun h => h) (dxr.ex e)
    have hB5 := hB.ex (e3e.trans e5)
    have hsg5 := hsg4.ex e5
    have dy1' := hy1.ex e5
    have dy2' := hy2.ex e5
    have hlo5 := e5 _ _ hlo4
    have hplain : ∀ {j : Nat} {y : V}, [y1, v2][j]? = some y → ∃ R, [G1, G3][j]? = some R ∧ Dt K MF H5 y (guD R) ∧ GoodG S R := fun {j y} h => by
      match j, h with
      | 0, h =>
        cases h
        exact ⟨G1, rfl, dy1', gG1⟩
      | 1, h =>
        cases h
        exact ⟨G3, rfl, dy2', gT⟩
    -- the guessers are made
    refine q_asgE fun lq hlq => ?_
    refine q_forLn (K := K) (a := lo) (xs := [y1, v2]) (ev_var (i := 5) rfl) (sq_of ((Ex.new hlq) _ _ hlo5))
      (fun j σ' H' => Ex H5 H' ∧ ∃ u7 u9 u10 u11 xs, σ' = [some (.ref a), some (.int (0 + (i : Int))), some (.ref b), some (.ref l), some (.ref x), some (.ref lo), some (.ref lr), u7, some (.ref lq), u9, u10, u11, u12, u13, u14, u15, u16, u17] ∧ H' lq = some (.lst xs) ∧ xs.length = j ∧ ∀ k v, xs[k]? = some v → ∃ p R, v = V.ref p ∧ [G1, G3][k]? = some R ∧ GuessAt K CB CG (· = lq) H' p S R)
      (fun H7 e7 => ⟨(Ex.new hlq).trans e7, _, _, _, _, [], rfl, e7 _ _ upd_same, rfl, fun k v h => by rw [List.getElem?_nil] at h; cases h⟩) (fun j σ' H' _ h => sq_of (h.1 _ _ hlo5)) ?_ ?_
    · rintro j y σ' H7 hy ⟨e7, v7, v9, v10, v11, xs, rfl, hq7, hxl, hrd⟩
      obtain ⟨R, hRj, dy, gR⟩ := hplain hy
      have hr30 := gR.r30
      refine q_parR (evn_listOf (K := K) (M := MF) (ds := R.rules.map ruD) (eva_cons (evd_ixT (j := 1) (ds := [.int (R.moods : Int), .list (R.rules.map ruD), intsD R.liked]) (evd_var (i := 9) (d := guD R) rfl (dy.ex e7)) evd_int rfl rfl) eva_nil) H7 (Ex.refl _) _ fun lt xt H8 hlt e8 hlt8 dxt => ?_)
      refine evn_listOf (K := K) (M := MF) (ds := (ofN R.liked).map PyData.int) (eva_cons (evd_ixT (j := 2) (ds := [.int (R.moods : Int), .list (R.rules.map ruD), intsD R.liked]) (evd_var (i := 9) (d := guD R) rfl (dy.ex (e7.trans e8))) evd_int rfl rfl) eva_nil) H8 (Ex.refl _) _ fun ll xl H9 hll e9 hll9 dxl => ?_
      have exl : xl = nums R.liked := by rw [dxl.ints, nums_of]
      subst exl
      refine ⟨_, _, rfl, ?_⟩
      have e59 : Ex H5 H9 := e7.trans (e8.trans e9)
      have dxt' : ∀ M, Dts K M H8 xt (R.rules.map ruD) := fun M => by
        rw [← rules_enc] at dxt ⊢
        exact rules_flat dxt
      have hxt30 : xt.length ≤ 30 := by rw [dxt.length, List.length_map]; exact hr30
      have hlt9 := e9 _ _ hlt8
      have dT9 : Dt K (MO H7) H9 (.ref lt) (.list (R.rules.map ruD)) := .lst hlt9 (fun z => z hlt) ((dxt' _).ex e9)
      have dL9 : Dt K (MO H7) H9 (.ref ll) (intsD R.liked) := .lst hll9 (fun z => z (fresh_back e8 hll)) (nums_dts _)
      have hq9 : H9 lq = some (.lst xs) := (e8.trans e9) _ _ hq7
      -- guessers.append(Guesser(..))
      refine ⟨_, rfl, .inl ⟨rfl, _, SqL.of hq9⟩, make_guess (M := MF) (Mb := MF) (pb := x) (G := R) okF (ev_var (i := 4) rfl) (hB5.ex e59) hK (evd_ixT (j := 0) (ds := [.int (R.moods : Int), .list (R.rules.map ruD), intsD R.liked]) (evd_var (i := 9) (d := guD R) rfl (dy.ex e59)) evd_int rfl rfl) (evd_var (i := 10) rfl (dT9.weak fun _ h => h.elim)) (evd_var (i := 11) rfl (dL9.weak fun _ h => h.elim)) gR fun p H10 H11 e10 e11 hp hmk => ?_⟩
      have hq11 : H11 lq = some (.lst xs) := (e10.trans e11) _ _ hq9
      have hj2 : j < 2 := (List.getElem?_eq_some_iff.mp hy).1
      refine ⟨lq, xs, .ref p, rfl, rfl, hq11, by rw [hxl]; exact Nat.lt_of_le_of_lt (show j ≤ 2 by omega) (by decide), ?_⟩
      have e911 := e10.trans e11
      have e511 : Ex H5 H11 := e59.trans e911
      have e512 : Ex H5 (upd H11 lq (.lst (xs ++ [.ref p]))) := Ex.mut e511 hlq
      have hlq7 : MO H7 lq := fun z => by rw [z] at hq7; cases hq7
      have dT12 : Dt K (· = lq) (upd H11 lq (.lst (xs ++ [.ref p]))) (.ref lt) (.list (R.rules.map ruD)) := ((dT9.weak fun a h => by rw [h]; exact hlq7).ex e911).upd hq11 rfl
      have dL12 : Dt K (· = lq) (upd H11 lq (.lst (xs ++ [.ref p]))) (.ref ll) (intsD R.liked) := ((dL9.weak fun a h => by rw [h]; exact hlq7).ex e911).upd hq11 rfl
      have hq12 : (upd H11 lq (.lst (xs ++ [.ref p]))) lq = some (.lst (xs ++ [.ref p])) := upd_same
      have k12 : ∀ b o, H11 b = some o → b ≠ lq → (upd H11 lq (.lst (xs ++ [.ref p]))) b = some o := fun b o h n => by rw [upd_ne n]; exact h
      have hnl : ∀ {z : Addr}, H7 z = none → z ≠ lq := fun {z} h e => hlq7 (by rw [← e]; exact h)
      generalize eH12 : upd H11 lq (.lst (xs ++ [.ref p])) = H12 at e512 dT12 dL12 hq12 k12
      refine q_when (b := false) (et_or (a := false) (b := false) (et_is (evt_test (K := K) (M := MF) (evd_neD (n := 3) (m := 3) (evd_var (i := 10) rfl (dT12.weak fun _ h => h.elim)) (evd_ixT (j := 1) (ds := [.int (R.moods : Int), .list (R.rules.map ruD), intsD R.liked]) (evd_var (i := 9) (d := guD R) rfl (dy.ex e512)) evd_int rfl rfl) (flat_rus _) (flat_rus _))) (by rw [(flat_rus R.rules).self]; rfl))
        (fun _ => et_is (evt_test (K := K) (M := MF) (evd_neD (n := 1) (m := 1) (evd_var (i := 11) rfl (dL12.weak fun _ h => h.elim)) (evd_ixT (j := 2) (ds := [.int (R.moods : Int), .list (R.rules.map ruD), intsD R.liked]) (evd_var (i := 9) (d := guD R) rfl (dy.ex e512)) evd_int rfl rfl) (flat_intsD _) (flat_intsD _))) (by rw [(flat_intsD _).self]; rfl))) (fun hb H13 e13 => nomatch hb) (fun hb H13 e13 => ?_)
      -- the handed-in lists are changed
      have hlt12 : H12 lt = some (.lst xt) := k12 _ _ (e911 _ _ hlt9) (hnl hlt)
      have hll12 : H12 ll = some (.lst (nums R.liked)) := k12 _ _ (e911 _ _ hll9) (hnl (fresh_back e8 hll))
      have hltll : lt ≠ ll := fun e => by rw [e, hll] at hlt8; cases hlt8
      have hlt_lq : lt ≠ lq := hnl hlt
      have hll_lq : ll ≠ lq := hnl (fresh_back e8 hll)
      refine q_appP (K := K) (M := MF) (i := 10) (P := fun _ => True) (e13 _ _ hlt12) rfl ((evd_tup (eva_cons evd_int (eva_cons (evd_tup eva_nil (by show 0 ≤ sizeLine; decide)) (eva_cons evd_int eva_nil))) (by show 3 ≤ sizeLine; decide)).mono fun _ _ => trivial) (Nat.lt_of_le_of_lt hxt30 (by decide)) fun vr dr H14 e14 dvr pdr => ?_
      refine ⟨_, rfl, .inl ⟨rfl, _, SqL.of upd_same⟩, lt, _, rfl, rfl, upd_same, ?_⟩
      rw [upd_upd]
      have hll14 : (upd H14 lt (.lst (xt ++ [vr]).reverse)) ll = some (.lst (nums R.liked)) := by rw [upd_ne (Ne.symm hltll)]; exact (e13.trans e14) _ _ hll12
      refine s_appP (K := K) (M := MF) (i := 11) (P := (· = .int 0)) hll14 rfl evd_int ?_ fun v d H15 e15 dv pd => ?_
      · rw [nums_len]
        have : R.liked.length ≤ 5 := by
          have h : ∀ (r : List Nat) (lo n : Nat), r.Pairwise (· < ·) → (∀ x ∈ r, lo ≤ x ∧ x < n) → r.length ≤ n - lo := by
            intro r
            induction r with
            | nil => intros; exact Nat.zero_le _
            | cons x r ih =>
              intro lo n h1 h2
              obtain ⟨h3, h4⟩ := List.pairwise_cons.mp h1
              obtain ⟨h5, h6⟩ := h2 x List.mem_cons_self
              have := ih (x + 1) n h4 fun y hy => ⟨h3 y hy, (h2 y (List.mem_cons_of_mem _ hy)).2⟩
              rw [List.length_cons]
              omega
          have := h R.liked 0 R.moods gR.lik fun x hx => ⟨Nat.zero_le _, gR.likm x hx⟩
          have := gR.m5
          omega
        exact Nat.lt_of_le_of_lt this (by decide)
      -- all lists that were changed
      have keep : ∀ b o, H13 b = some o → ¬ (b = lq ∨ b = lt ∨ b = ll) → (upd H15 ll (.lst (nums R.liked ++ [v]))) b = some o := fun b o hb hn => by
        rw [upd_ne (fun e => hn (.inr (.inr e)))]
        exact e15 _ _ (by rw [upd_ne (fun e => hn (.inr (.inl e)))]; exact e14 _ _ hb)
      have hqE : (upd H15 ll (.lst (nums R.liked ++ [v]))) lq = some (.lst (xs ++ [.ref p])) := by
        rw [upd_ne (Ne.symm hll_lq)]
        exact e15 _ _ (by rw [upd_ne (Ne.symm hlt_lq)]; exact (e13.trans e14) _ _ hq12)
      have ch : ChM (fun b => b = lq ∨ b = lt ∨ b = ll) H13 (upd H15 ll (.lst (nums R.liked ++ [v]))) := ⟨keep, fun b hb => by
        rcases hb with rfl | rfl | rfl
        · exact ⟨_, e13 _ _ hq12⟩
        · exact ⟨_, e13 _ _ hlt12⟩
        · exact ⟨_, e13 _ _ hll12⟩⟩
      generalize upd H15 ll (.lst (nums R.liked ++ [v])) = HE at keep hqE ch
      have new7 : ∀ c, (c = lq ∨ c = lt ∨ c = ll) → c = lq ∨ H7 c = none := fun c hc => by
        rcases hc with h | rfl | rfl
        · exact .inl h
        · exact .inr hlt
        · exact .inr (fresh_back e8 hll)
      have to13 : ∀ {p' : Addr} {R' : Gp}, GuessAt K CB CG (fun b => b = lq ∨ b = lt ∨ b = ll) H11 p' S R' → GuessAt K CB CG (· = lq) HE p' S R' := fun {p' R'} h => by
        have h12 := h.upd (o := .lst (xs ++ [.ref p])) hq11 (.inl rfl)
        rw [eH12] at h12
        exact ((h12.ex e13).ch ch).weak fun c hc => .inl hc
      refine ⟨fun b o hb => keep b o (e13 _ _ (e512 _ _ hb)) fun hn => ?_, _, _, _, _, xs ++ [.ref p], rfl, hqE, by rw [List.length_append, hxl]; rfl, fun k v hv => ?_⟩
      · rcases new7 b hn with h | h
        · rw [h, hlq] at hb
          cases hb
        · rw [e7 _ _ hb] at h
          cases h
      · by_cases hk : k < xs.length
        · rw [List.getElem?_append_left hk] at hv
          obtain ⟨p', R', rfl, hR', hrd'⟩ := hrd k v hv
          exact ⟨p', R', rfl, hR', to13 ((hrd'.avoid new7).ex ((e8.trans e9).trans e911))⟩
        · have hk2 := (List.getElem?_eq_some_iff.mp hv).1
          rw [List.length_append, List.length_singleton] at hk2
          have ek : k = j := by omega
          subst ek
          rw [List.getElem?_append_right (by omega), show k - xs.length = 0 by omega] at hv
          cases hv
          refine ⟨p, R, rfl, hRj, to13 (hmk _ (fun c hc => ?_) ?_)⟩
          · rcases hc with rfl | rfl | rfl
            · rw [e10 _ _ hq9]; simp
            · rw [e10 _ _ hlt9]; simp
            · rw [e10 _ _ hll9]; simp
          · refine (hB5.avoid fun c hc => ?_).ex (e59.trans e10)
            rcases new7 c hc with h | h
            · exact .inr (by rw [h]; exact hlq)
            · exact .inr (fresh_back e7 h)
    -- the guessers are asked
    · rintro σ' H7 ⟨e7, v7, v9, v10, v11, xs, rfl, hq7, hxl, hrd⟩
      have hxl : xs.length = 2 := hxl
      refine s_forR1 (ea_cons (ev_ofI (K := K) (M := MF) evd_int) ea_nil) (by omega)
        (fun k σ' H' => Ex H7 H' ∧ ∃ u7 u9 u12 u13 u14 u15 u16, σ' = [some (.ref a), some (.int (0 + (i : Int))), some (.ref b), some (.ref l), some (.ref x), some (.ref lo), some (.ref lr), u7, some (.ref lq), u9, v10, v11, u12, u13, u14, u15, u16, u17])
        (fun H8 e8 => ⟨e8, _, _, _, _, _, _, _, rfl⟩) ?_ ?_
      · rintro k σ' H8 hk ⟨e8, w7, w9, w12, w13, w14, w15, w16, rfl⟩
        refine ⟨_, rfl, _, rfl, lq, lo, xs, [y1, v2], rfl, SqL.of (e8 _ _ hq7), SqL.of ((e7.trans e8) _ _ hlo5), for_it (walk_zip (K := K) (a := lq) (b := lo) (xs := xs) (ys := [y1, v2]) rfl)
          (fun j σ' H' => Ex H7 H' ∧ ∃ u9 u12 u13 u14 u15 u16, σ' = [some (.ref a), some (.int (0 + (i : Int))), some (.ref b), some (.ref l), some (.ref x), some (.ref lo), some (.ref lr), some (.int (k : Int)), some (.ref lq), u9, v10, v11, u12, u13, u14, u15, u16, u17])
          ⟨e8, _, _, _, _, _, _, rfl⟩ (fun j σ' H' _ h => ⟨SqL.of (h.1 _ _ hq7), SqL.of ((e7.trans h.1) _ _ hlo5)⟩) ?_ ?_⟩
        · rintro j z σ' Ha Hb hj ⟨ea, w9, w12, w13, w14, w15, w16, rfl⟩ ⟨Tp, z1, z2, rfl, hTp, rfl, hz1, hz2⟩
          obtain ⟨p, R, rfl, hRj, hR0⟩ := hrd j z1 hz1
          obtain ⟨R', hRj', dy, gR⟩ := hplain hz2
          rw [hRj] at hRj'
          cases hRj'
          have hR7 : GuessAt K CB CG MF H7 p S R := hR0.weak fun _ h => h.elim
          have eb : Ex H7 (upd Ha Tp (.tup [.ref p, z2])) := ea.trans (Ex.new hTp)
          refine ⟨_, _, rfl, SqT.of upd_same, rfl, _, _, rfl, _, _, rfl, rfl, ?_⟩
          generalize upd Ha Tp (.tup [.ref p, z2]) = Hb at eb
          -- every tree
          refine s_forLn (K := K) (a := lr) (xs := xr) (ev_var (i := 6) rfl) (sq_of ((e7.trans eb) _ _ hlr5))
            (fun m σ' H' => Ex H7 H' ∧ ∃ u13 u14 u15 u16, σ' = [some (.ref a), some (.int (0 + (i : Int))), some (.ref b), some (.ref l), some (.ref x), some (.ref lo), some (.ref lr), some (.int (k : Int)), some (.ref lq), some z2, v10, v11, some (.ref p), u13, u14, u15, u16, u17])
            (fun Hc ec => ⟨eb.trans ec, _, _, _, _, rfl⟩) (fun m σ' H' _ h => sq_of ((e7.trans h.1) _ _ hlr5)) ?_ ?_
          · rintro m tv σ' Hc htv ⟨ec, w13, w14, w15, w16, rfl⟩
            obtain ⟨d, hd, dt⟩ := dxr.get htv
            rw [List.getElem?_map] at hd
            cases ht : ts[m]? with
            | none =>
              rw [ht] at hd
              cases hd
            | some t =>
            rw [ht] at hd
            cases hd
            obtain ⟨hO, h40⟩ := hts t (List.mem_of_getElem? ht)
            have e5c : Ex H5 Hc := e7.trans ec
            have dr : ∀ {H'}, Ex H5 H' → Dt K MF H' tv (rowD t) := fun e => dt_any (dt.ex e)
            refine q_asgR (evq_lmoods (S := S) (G := R) (t := t) (evd_var (i := 3) rfl (hsg5.ex e5c)) (evd_var (i := 9) rfl (dy.ex e5c)) (evd_var (i := 13) rfl (dr e5c)) hK gR hO (by omega) fun ld Hd hld ed hldd => ?_)
            have e7d := ec.trans ed
            have e5d := e7.trans e7d
            refine q_asgR (evq_gof (i := 12) (t := t) rfl (hR7.ex e7d) gR hK (evd_var (i := 13) rfl (dr e5d)) hO h40 fun lf He hlf ee hlff => ?_)
            have e7e := e7d.trans ee
            have e5e := e7.trans e7e
            refine q_asgP (K := K) (M := MF) (evd_glikes (i := 12) (t := t) rfl (hR7.ex e7e) gR hK (evd_var (i := 13) rfl (dr e5e)) hO h40) fun vl dl Hf ef dvl pl => ?_
            subst pl
            cases dvl
            have e7f := e7e.trans ef
            have e5f := e7.trans e7f
            have hld2 := (ee.trans ef) _ _ hldd
            have hlf2 := ef _ _ hlff
            refine q_when (b := false) (et_or (a := false) (b := false) (et_is (evt_test (K := K) (M := MF) (evd_neD (n := 1) (m := 1) (evd_var (i := 15) rfl (dt_numsQ hlf2)) (evd_var (i := 14) rfl (dt_numsQ hld2)) (flat_intsD _) (flat_intsD _))) (by rw [(flat_intsD _).self]; rfl))
              (fun _ => et_or (a := false) (b := false) (evt_not (evt_isList (i := 15) rfl hlf2 rfl)) fun _ => evt_not (evt_isBool (i := 16) rfl rfl))) (fun hb H13 e13 => nomatch hb) (fun hb Hg eg => ?_)
            have e5g := e5f.trans eg
            have hld3 := eg _ _ hld2
            have hlf3 := eg _ _ hlf2
            have hlen5 := gmoods_len R t
            have hm5 := gR.m5
            refine q_when (b := false) (et_is (evt_test (K := K) (M := MF) (evd_neB (i := glikes R t) (j := glikes R t) (evd_var (i := 16) rfl (.bl _)) ((evd_neD (n := 1) (m := 1) (d1 := intsD ((gmoods R t).filter fun m => decide (m ∈ R.liked))) (d2 := .list []) (((evn_lcL (ds := (ofN (gmoods R t)).map PyData.int) (litF R) id okF (evd_var (i := 14) rfl (dt_numsQ hld3)) ?_ fun M' d x H' hm ok' hd e dx Qg qg => ?_).data okF).mono fun d hd => ?_) (evd_lst okF eva_nil (by show 0 ≤ sizeLine; decide)) (flat_intsD _) (flat_intsD [])).mono fun d h => by rw [h, likd_any, Bool.not_not]))) (by rw [decide_eq_true rfl]; rfl)) (fun hb H13 e13 => nomatch hb) (fun hb Hh eh => ?_)
            · rw [List.length_map, ofN_len]
              exact Nat.lt_of_le_of_lt (show _ ≤ 5 by omega) (by decide)
            · obtain ⟨z, _, rfl⟩ := List.mem_map.mp hd
              refine qg _ H' (Ex.refl _) ⟨rfl, evt_test (K := K) (M := MF) ((evd_inI (K := K) (M := MF) (z := z) (ys := ofN R.liked) (evd_var (i := 17) rfl ?_) (evd_ixT (j := 2) (ds := [.int (R.moods : Int), .list (R.rules.map ruD), intsD R.liked]) (evd_var (i := 9) (d := guD R) rfl (dy.ex (e5g.trans e))) evd_int rfl rfl))), fun _ => evd_var (i := 17) rfl dx⟩
              cases dx
              exact .int _
            · obtain ⟨ds, rfl, rfl⟩ := hd
              rw [lit_filter]
              rfl
            have hlf4 := eh _ _ hlf3
            refine s_appP (K := K) (M := MF) (i := 15) (P := (· = .int 7)) hlf4 rfl evd_int (by rw [nums_len]; exact Nat.lt_of_le_of_lt (show _ ≤ 5 by omega) (by decide)) fun v d Hi ei dv pd => ?_
            exact ⟨Ex.mut (e7f.trans (eg.trans (eh.trans ei))) (fresh_back e7d hlf), _, _, _, _, rfl⟩
          · rintro σ' Hc ⟨ec, w13, w14, w15, w16, rfl⟩
            exact ⟨ec, _, _, _, _, _, _, rfl⟩
        · rintro σ' Ha ⟨ea, w9, w12, w13, w14, w15, w16, rfl⟩
          exact ⟨ea, _, _, _, _, _, _, _, rfl⟩
      · rintro σ' H8 ⟨e8, w7, w9, w12, w13, w14, w15, w16, rfl⟩
        exact ⟨eH.trans (((e1.trans e2).trans e3).trans ((e3e.trans e5).trans (e7.trans e8))), _, _, _, _, _, _, _, _, _, _, _, _, _, _, _, _, _, rfl⟩
end
end TH
set_option maxRecDepth 100000
set_option maxHeartbeats 4000000
namespace TH
open PySem L2 Evl LamX
/-! ### what the top has written: each a fact that k_is finds -/
def DefG (K : PySem.W.Frag) (x : Str) (st : Stmt) : Prop := ∃ (f : Addr) (fd : FuncData), PySem.W.nsIn K mainGlobals x = some (some (.ref f)) ∧ Fun K x x st f fd
def MethG (K : PySem.W.Frag) (C : Addr) (m q : Str) (st : Stmt) : Prop := ∃ (f : Addr) (fd : FuncData), Meth K C m f ∧ Fun K m q st f fd
/-- a method that is read as a value -/
def BMethG (K : PySem.W.Frag) (C : Addr) (m q : Str) (st : Stmt) : Prop := ∃ (f : Addr) (fd : FuncData), BMeth K C m f ∧ Fun K m q st f fd
section
variable {K : PySem.W.Frag} {x q : Str} {st : Stmt} {f C : Addr} {oc : Value} {od an : Option Addr} {osl : Array (Option Value)} {kV doc pm cdv ct : Value}
theorem defG_mk (a : PySem.W.nsIn K mainGlobals x = some (some (.ref f))) (l : K.lookup f = some ⟨oc, od, .func (PySem.W.fnOf x x (defArgs st) (defBody st) (defScope st) .none kV doc pm an cdv ct), osl⟩)
    (c : PySem.W.codeIn K cdv x = true) (k : PySem.W.keepIn K (.ref f) = true) : DefG K x st := ⟨f, _, a, fun_mk l c k⟩
theorem methG_mk {m : Str} (a : PySem.W.findIn K (.ref C) m = some (some (.ref f))) (i : PySem.W.isFn K (.ref f) = true) (l : K.lookup f = some ⟨oc, od, .func (PySem.W.fnOf m q (defArgs st) (defBody st) (defScope st) .none kV doc pm an cdv ct), osl⟩)
    (c : PySem.W.codeIn K cdv q = true) (k : PySem.W.keepIn K (.ref f) = true) : MethG K C m q st := ⟨f, _, ⟨a, i, k⟩, fun_mk l c k⟩
theorem bmethG_mk {m : Str} (a : PySem.W.findIn K (.ref C) m = some (some (.ref f))) (i : PySem.W.isFn K (.ref f) = true) (l : K.lookup f = some ⟨oc, od, .func (PySem.W.fnOf m q (defArgs st) (defBody st) (defScope st) .none kV doc pm an cdv ct), osl⟩)
    (c : PySem.W.codeIn K cdv q = true) (k : PySem.W.keepIn K (.ref f) = true) (gf : PySem.W.specialIn K (.ref f) "__get__" = some (some (.builtin "function.__get__"))) (tk : PySem.W.takesIn K (.ref f) = some false) (cp : PySem.W.copiedNames.contains m = false) (fi : PySem.W.fnIn K f = true) : BMethG K C m q st := ⟨f, _, ⟨⟨a, i, k⟩, gf, tk, cp, fi⟩, fun_mk l c k⟩
end
/-- what the names of the built-ins stand for -/
structure NoneG (K : PySem.W.Frag) : Prop where
  n_range : PySem.W.nsIn K mainGlobals "range" = some none
  n_len : PySem.W.nsIn K mainGlobals "len" = some none
  n_abs : PySem.W.nsIn K mainGlobals "abs" = some none
  n_divmod : PySem.W.nsIn K mainGlobals "divmod" = some none
  n_all : PySem.W.nsIn K mainGlobals "all" = some none
  n_any : PySem.W.nsIn K mainGlobals "any" = some none
  n_enumerate : PySem.W.nsIn K mainGlobals "enumerate" = some none
  n_min : PySem.W.nsIn K mainGlobals "min" = some none
  n_max : PySem.W.nsIn K mainGlobals "max" = some none
  n_list : PySem.W.nsIn K mainGlobals "list" = some none
  n_bool : PySem.W.nsIn K mainGlobals "bool" = some none
  n_isinstance : PySem.W.nsIn K mainGlobals "isinstance" = some none
  n_reversed : PySem.W.nsIn K mainGlobals "reversed" = some none
  n_tuple : PySem.W.nsIn K mainGlobals "tuple" = some none
  n_zip : PySem.W.nsIn K mainGlobals "zip" = some none
  n_sorted : PySem.W.nsIn K mainGlobals "sorted" = some none
/-- the class Book -/
structure BookG (K : PySem.W.Frag) (C : Addr) : Prop where
  a : PySem.W.nsIn K mainGlobals "Book" = some (some (.ref C))
  pg : PySem.W.plainGet K C Str.empty = true
  hd : PySem.W.hasDictIn K C = true
  po : PySem.W.plainOver K C = true
  sa : PySem.W.findIn K (.ref C) "__setattr__" = some (some (.builtin "object.__setattr__"))
  made : PySem.W.makesIn K C = true
  kc : PySem.W.keepIn K (.ref C) = true
  n1 : PySem.W.findIn K (.ref C) "_names" = some none
  n2 : PySem.W.findIn K (.ref C) "_kids" = some none
/-- the class Guesser -/
structure GuesserG (K : PySem.W.Frag) (C : Addr) : Prop where
  a : PySem.W.nsIn K mainGlobals "Guesser" = some (some (.ref C))
  pg : PySem.W.plainGet K C Str.empty = true
  hd : PySem.W.hasDictIn K C = true
  po : PySem.W.plainOver K C = true
  sa : PySem.W.findIn K (.ref C) "__setattr__" = some (some (.builtin "object.__setattr__"))
  made : PySem.W.makesIn K C = true
  kc : PySem.W.keepIn K (.ref C) = true
  n1 : PySem.W.findIn K (.ref C) "_book" = some none
  n2 : PySem.W.findIn K (.ref C) "_rules" = some none
  n3 : PySem.W.findIn K (.ref C) "_liked" = some none
/-- a class of refusals that is raised -/
structure RaiseG (K : PySem.W.Frag) (C : Addr) : Prop where
  x : PySem.W.excIn K C [.type "ValueError", .type "Exception", .type "BaseException", .type "object"] "ValueError.__new__" = true
  k : PySem.W.keepIn K (.ref C) = true
  b : PySem.W.subIn K (.ref C) (.type "BaseException") = some true
  t : PySem.W.typeIn K (.ref C) = some (.type "type")
theorem all_mk {l : PySem.W.OpenLaw} {w : World} {K : PySem.W.Frag} {h : Heap} {mg : Str → Option Value} {fa CB CG fL : Addr} (X : K.In h) (G : h.Ns mainGlobals mg) (hfa : mg "law" = some (.ref fa))
    {oc : Value} {od an : Option Addr} {osl : Array (Option Value)} {kV doc pm cdL ct : Value} {t1 t2 t3 t4 t5 t6 : Tok} {D1 D2 D3 : Addr}
    (NG : NoneG K)
    (CG_Book : BookG K CB)
    (CG_Guesser : GuesserG K CG)
    (a_NoBook : PySem.W.nsIn K mainGlobals "NoBook" = some (some (.ref D1))) (RG_NoBook : RaiseG K D1)
    (a_NoTree : PySem.W.nsIn K mainGlobals "NoTree" = some (some (.ref D2))) (RG_NoTree : RaiseG K D2)
    (a_NoGuesser : PySem.W.nsIn K mainGlobals "NoGuesser" = some (some (.ref D3))) (RG_NoGuesser : RaiseG K D3)
    (D_is_name : DefG K "is_name" sName)
    (D_is_sign : DefG K "is_sign" sSign)
    (D_are_signs : DefG K "are_signs" sAre)
    (D_is_row : DefG K "is_row" sIsRow)
    (D_is_tree : DefG K "is_tree" sIsTree)
    (D_check_tree : DefG K "check_tree" sCheck)
    (D_led : DefG K "led" sLed)
    (D_are_liked : DefG K "are_liked" sAreLiked)
    (D_is_rule : DefG K "is_rule" sIsRule)
    (D_is_fitting : DefG K "is_fitting" sIsFit)
    (D__law_box : DefG K "_law_box" sBox)
    (D__law_more : DefG K "_law_more" sMore)
    (D__law_take : DefG K "_law_take" sTake)
    (D__law_signs : DefG K "_law_signs" sSigns)
    (D__law_row : DefG K "_law_row" sLRow)
    (D__law_guesser : DefG K "_law_guesser" sLGuesser)
    (D__law_lead : DefG K "_law_lead" sLLead)
    (D__law_moods : DefG K "_law_moods" sLMoods)
    (M_Book___init__ : MethG K CB "__init__" "Book.__init__" sInit)
    (M_Book_many : MethG K CB "many" "Book.many" sMany)
    (M_Book_has : MethG K CB "has" "Book.has" sHas)
    (M_Book_kids : MethG K CB "kids" "Book.kids" sKd)
    (M_Guesser___init__ : MethG K CG "__init__" "Guesser.__init__" sGInit)
    (M_Guesser_lead : BMethG K CG "lead" "Guesser.lead" sGLead)
    (M_Guesser_likes_one : MethG K CG "likes_one" "Guesser.likes_one" sGOne)
    (M_Guesser_moods_of : MethG K CG "moods_of" "Guesser.moods_of" sGOf)
    (M_Guesser_likes : MethG K CG "likes" "Guesser.likes" sGLikes)
    (k1 : PySem.W.nsIn K mainGlobals "LONGEST_NAME" = some (some (.int 3 t1)))
    (k2 : PySem.W.nsIn K mainGlobals "MOST_SIGNS_signs" = some (some (.int 6 t2)))
    (k3 : PySem.W.nsIn K mainGlobals "MOST_KIDS" = some (some (.int 2 t3)))
    (k4 : PySem.W.nsIn K mainGlobals "MOST_SIGNS_trees" = some (some (.int 40 t4)))
    (k5 : PySem.W.nsIn K mainGlobals "MOST_MOODS" = some (some (.int 5 t5)))
    (k6 : PySem.W.nsIn K mainGlobals "MOST_RULES" = some (some (.int 30 t6)))
    (aL : PySem.W.nsIn K mainGlobals "law" = some (some (.ref fL))) (lk : K.lookup fL = some ⟨oc, od, .func (PySem.W.fnOf "law" "law" (defArgs sLaw) (defBody sLaw) (defScope sLaw) .none kV doc pm an cdL ct), osl⟩)
    (hcd : PySem.W.codeIn K cdL "law" = true) (kL : PySem.W.keepIn K (.ref fL) = true) :
    LawAtS l w K CX0 7 63 "_law_script" mg fa h := by
  have e := hfa.symm.trans (PySem.W.mg_of X G aL)
  cases e
  have gn : ∀ {x : Str}, PySem.W.nsIn K mainGlobals x = some none → mg x = none := fun z => PySem.W.mg_none_of X G z
  have gs : ∀ {x : Str} {v : Value}, PySem.W.nsIn K mainGlobals x = some (some v) → mg x = some v := fun z => PySem.W.mg_of X G z
  have GS : GlobS mg := { range := gn NG.n_range, len := gn NG.n_len, abs := gn NG.n_abs, divmod := gn NG.n_divmod, all := gn NG.n_all, any := gn NG.n_any, longest := ⟨_, gs k1⟩, most := ⟨_, gs k2⟩, mostK := ⟨_, gs k3⟩, enumerate := gn NG.n_enumerate }
  have GL : GlobL mg := { GS with min := gn NG.n_min }
  have GW : GlobW mg := { GL with max := gn NG.n_max }
  have GR : GlobR mg := { mostT := ⟨_, gs k4⟩, reversed := gn NG.n_reversed }
  have GU : GlobU mg := { tuple := gn NG.n_tuple }
  have GY : GlobY mg := { list := gn NG.n_list }
  have GE : GlobE mg := { zip := gn NG.n_zip, sorted := gn NG.n_sorted, mostM := ⟨_, gs k5⟩, mostR := ⟨_, gs k6⟩ }
  have GI : GlobI mg := { isinstance := gn NG.n_isinstance, bool := gn NG.n_bool }
  have T : BookT K mg CB := ⟨⟨CG_Book.pg, CG_Book.hd, CG_Book.po, CG_Book.sa⟩, CG_Book.n1, CG_Book.n2, gs CG_Book.a⟩
  have TG : GuesserT K mg CG := ⟨⟨CG_Guesser.pg, CG_Guesser.hd, CG_Guesser.po, CG_Guesser.sa⟩, CG_Guesser.n1, CG_Guesser.n2, CG_Guesser.n3, gs CG_Guesser.a⟩
  have X_NoBook : ExcT K mg "NoBook" D1 := ⟨gs a_NoBook, RG_NoBook.x, RG_NoBook.k, RG_NoBook.b, RG_NoBook.t⟩
  have X_NoTree : ExcT K mg "NoTree" D2 := ⟨gs a_NoTree, RG_NoTree.x, RG_NoTree.k, RG_NoTree.b, RG_NoTree.t⟩
  have X_NoGuesser : ExcT K mg "NoGuesser" D3 := ⟨gs a_NoGuesser, RG_NoGuesser.x, RG_NoGuesser.k, RG_NoGuesser.b, RG_NoGuesser.t⟩
  obtain ⟨f_is_name, d_is_name, a_is_name, F_is_name⟩ := D_is_name
  have b_is_name := F_is_name.binds (ps := ["name", "longest"]) fun _ _ _ _ _ _ us hl => match us, hl with | [_, _], _ => rfl
  obtain ⟨f_is_sign, d_is_sign, a_is_sign, F_is_sign⟩ := D_is_sign
  have b_is_sign := F_is_sign.binds (ps := ["sign"]) fun _ _ _ _ _ _ us hl => match us, hl with | [_], _ => rfl
  obtain ⟨f_are_signs, d_are_signs, a_are_signs, F_are_signs⟩ := D_are_signs
  have b_are_signs := F_are_signs.binds (ps := ["signs"]) fun _ _ _ _ _ _ us hl => match us, hl with | [_], _ => rfl
  obtain ⟨f_is_row, d_is_row, a_is_row, F_is_row⟩ := D_is_row
  have b_is_row := F_is_row.binds (ps := ["book", "row"]) fun _ _ _ _ _ _ us hl => match us, hl with | [_, _], _ => rfl
  obtain ⟨f_is_tree, d_is_tree, a_is_tree, F_is_tree⟩ := D_is_tree
  have b_is_tree := F_is_tree.binds (ps := ["book", "tree"]) fun _ _ _ _ _ _ us hl => match us, hl with | [_, _], _ => rfl
  obtain ⟨f_check_tree, d_check_tree, a_check_tree, F_check_tree⟩ := D_check_tree
  have b_check_tree := F_check_tree.binds (ps := ["book", "tree"]) fun _ _ _ _ _ _ us hl => match us, hl with | [_, _], _ => rfl
  obtain ⟨f_led, d_led, a_led, F_led⟩ := D_led
  have b_led := F_led.binds (ps := ["book", "row", "lead"]) fun _ _ _ _ _ _ us hl => match us, hl with | [_, _, _], _ => rfl
  obtain ⟨f_are_liked, d_are_liked, a_are_liked, F_are_liked⟩ := D_are_liked
  have b_are_liked := F_are_liked.binds (ps := ["liked", "moods"]) fun _ _ _ _ _ _ us hl => match us, hl with | [_, _], _ => rfl
  obtain ⟨f_is_rule, d_is_rule, a_is_rule, F_is_rule⟩ := D_is_rule
  have b_is_rule := F_is_rule.binds (ps := ["book", "moods", "rule"]) fun _ _ _ _ _ _ us hl => match us, hl with | [_, _, _], _ => rfl
  obtain ⟨f_is_fitting, d_is_fitting, a_is_fitting, F_is_fitting⟩ := D_is_fitting
  have b_is_fitting := F_is_fitting.binds (ps := ["wanted", "kids"]) fun _ _ _ _ _ _ us hl => match us, hl with | [_, _], _ => rfl
  obtain ⟨f__law_box, d__law_box, a__law_box, F__law_box⟩ := D__law_box
  have b__law_box := F__law_box.binds (ps := ["_law_script", "_law_k"]) fun _ _ _ _ _ _ us hl => match us, hl with | [_, _], _ => rfl
  obtain ⟨f__law_more, d__law_more, a__law_more, F__law_more⟩ := D__law_more
  have b__law_more := F__law_more.binds (ps := ["_law_box_here"]) fun _ _ _ _ _ _ us hl => match us, hl with | [_], _ => rfl
  obtain ⟨f__law_take, d__law_take, a__law_take, F__law_take⟩ := D__law_take
  have b__law_take := F__law_take.binds (ps := ["_law_box_here", "_law_count"]) fun _ _ _ _ _ _ us hl => match us, hl with | [_, _], _ => rfl
  obtain ⟨f__law_signs, d__law_signs, a__law_signs, F__law_signs⟩ := D__law_signs
  have b__law_signs := F__law_signs.binds (ps := ["_law_box_here"]) fun _ _ _ _ _ _ us hl => match us, hl with | [_], _ => rfl
  obtain ⟨f__law_row, d__law_row, a__law_row, F__law_row⟩ := D__law_row
  have b__law_row := F__law_row.binds (ps := ["_law_box_here", "_law_signs_here", "_law_most"]) fun _ _ _ _ _ _ us hl => match us, hl with | [_, _, _], _ => rfl
  obtain ⟨f__law_guesser, d__law_guesser, a__law_guesser, F__law_guesser⟩ := D__law_guesser
  have b__law_guesser := F__law_guesser.binds (ps := ["_law_box_here", "_law_signs_here", "_law_most"]) fun _ _ _ _ _ _ us hl => match us, hl with | [_, _, _], _ => rfl
  obtain ⟨f__law_lead, d__law_lead, a__law_lead, F__law_lead⟩ := D__law_lead
  have b__law_lead := F__law_lead.binds (ps := ["_law_plain", "_law_sign", "_law_kids"]) fun _ _ _ _ _ _ us hl => match us, hl with | [_, _, _], _ => rfl
  obtain ⟨f__law_moods, d__law_moods, a__law_moods, F__law_moods⟩ := D__law_moods
  have b__law_moods := F__law_moods.binds (ps := ["_law_signs_here", "_law_plain", "_law_row_here"]) fun _ _ _ _ _ _ us hl => match us, hl with | [_, _, _], _ => rfl
  obtain ⟨f_Book___init__, d_Book___init__, m_Book___init__, F_Book___init__⟩ := M_Book___init__
  have b_Book___init__ := F_Book___init__.binds (ps := ["self", "signs"]) fun _ _ _ _ _ _ us hl => match us, hl with | [_, _], _ => rfl
  obtain ⟨f_Book_many, d_Book_many, m_Book_many, F_Book_many⟩ := M_Book_many
  have b_Book_many := F_Book_many.binds (ps := ["self"]) fun _ _ _ _ _ _ us hl => match us, hl with | [_], _ => rfl
  obtain ⟨f_Book_has, d_Book_has, m_Book_has, F_Book_has⟩ := M_Book_has
  have b_Book_has := F_Book_has.binds (ps := ["self", "sign"]) fun _ _ _ _ _ _ us hl => match us, hl with | [_, _], _ => rfl
  obtain ⟨f_Book_kids, d_Book_kids, m_Book_kids, F_Book_kids⟩ := M_Book_kids
  have b_Book_kids := F_Book_kids.binds (ps := ["self", "sign"]) fun _ _ _ _ _ _ us hl => match us, hl with | [_, _], _ => rfl
  obtain ⟨f_Guesser___init__, d_Guesser___init__, m_Guesser___init__, F_Guesser___init__⟩ := M_Guesser___init__
  have b_Guesser___init__ := F_Guesser___init__.binds (ps := ["self", "book", "moods", "rules", "liked"]) fun _ _ _ _ _ _ us hl => match us, hl with | [_, _, _, _, _], _ => rfl
  obtain ⟨f_Guesser_lead, d_Guesser_lead, bm_Guesser_lead, F_Guesser_lead⟩ := M_Guesser_lead
  have m_Guesser_lead := bm_Guesser_lead.mt
  have b_Guesser_lead := F_Guesser_lead.binds (ps := ["self", "sign", "kids"]) fun _ _ _ _ _ _ us hl => match us, hl with | [_, _, _], _ => rfl
  obtain ⟨f_Guesser_likes_one, d_Guesser_likes_one, m_Guesser_likes_one, F_Guesser_likes_one⟩ := M_Guesser_likes_one
  have b_Guesser_likes_one := F_Guesser_likes_one.binds (ps := ["self", "moods"]) fun _ _ _ _ _ _ us hl => match us, hl with | [_, _], _ => rfl
  obtain ⟨f_Guesser_moods_of, d_Guesser_moods_of, m_Guesser_moods_of, F_Guesser_moods_of⟩ := M_Guesser_moods_of
  have b_Guesser_moods_of := F_Guesser_moods_of.binds (ps := ["self", "tree"]) fun _ _ _ _ _ _ us hl => match us, hl with | [_, _], _ => rfl
  obtain ⟨f_Guesser_likes, d_Guesser_likes, m_Guesser_likes, F_Guesser_likes⟩ := M_Guesser_likes
  have b_Guesser_likes := F_Guesser_likes.binds (ps := ["self", "tree"]) fun _ _ _ _ _ _ us hl => match us, hl with | [_, _], _ => rfl
  have bL : ∀ (s : Shared) (u : Value), BindsTo s (PySem.W.fnOf "law" "law" (defArgs sLaw) (defBody sLaw) (defScope sLaw) .none kV doc pm an cdL ct) ⟨[u], []⟩ [("_law_script", u)] := fun s v => .of_eq rfl
  refine ⟨_, [], spLaw K, fun p hp => (nomatch hp), fun p hp => (nomatch hp), fun p hp => (nomatch hp), bL, fun H a ns hl _ _ hS => ⟨a, ns, rfl, hS, hl, fun _ => rfl⟩, fun base KB GBs TB => ?_⟩
  have BK : BookK l.prog w K mg base CB := ⟨T, ⟨_, _, m_Book_many, ok_many F_Book_many GS T, b_Book_many⟩, ⟨_, _, m_Book_kids, ok_kd F_Book_kids T, b_Book_kids⟩⟩
  have BH : OneM l.prog w K mg base CB "has" 1 ["self", "sign"] (spHas CB) := ⟨_, _, m_Book_has, ok_has F_Book_has GS T, b_Book_has⟩
  have GX : OneF l.prog w K mg base "_law_box" 1 ["_law_script", "_law_k"] (spBox K) := ⟨_, _, gs a__law_box, F__law_box.kp, ok_box F__law_box GS.toGlob, b__law_box⟩
  have OT : OneF l.prog w K mg base "_law_take" 2 ["_law_box_here", "_law_count"] spTake := ⟨_, _, gs a__law_take, F__law_take.kp, ok_take F__law_take GS.toGlob F__law_more (gs a__law_more) b__law_more, b__law_take⟩
  obtain ⟨fT, dT, mT, kT, gT, bT⟩ := id OT
  have OS : OneF l.prog w K mg base "_law_signs" 3 ["_law_box_here"] (spSigns K) := ⟨_, _, gs a__law_signs, F__law_signs.kp, ok_signs F__law_signs GL gT kT mT bT, b__law_signs⟩
  have OR : OneF l.prog w K mg base "_law_row" 3 ["_law_box_here", "_law_signs_here", "_law_most"] (spLRow K) := ⟨_, _, gs a__law_row, F__law_row.kp, ok_lrow F__law_row GS.toGlob GU gT kT mT bT, b__law_row⟩
  have OP : OneF l.prog w K mg base "_law_guesser" 3 ["_law_box_here", "_law_signs_here", "_law_most"] (spLGuesser K) := ⟨_, _, gs a__law_guesser, F__law_guesser.kp, ok_lguesser F__law_guesser GS.toGlob GU OT, b__law_guesser⟩
  have OLL : OneF l.prog w K mg base "_law_lead" 1 ["_law_plain", "_law_sign", "_law_kids"] (spLLead K) := ⟨_, _, gs a__law_lead, F__law_lead.kp, ok_llead F__law_lead GE, b__law_lead⟩
  have OLM : OneF l.prog w K mg base "_law_moods" 2 ["_law_signs_here", "_law_plain", "_law_row_here"] (spLMoods K) := ⟨_, _, gs a__law_moods, F__law_moods.kp, ok_lmoods F__law_moods GS.toGlob GR OLL, b__law_moods⟩
  have R1 : OneF l.prog w K mg base "is_row" 2 ["book", "row"] (spIsRow K CB) := ⟨_, _, gs a_is_row, F_is_row.kp, ok_isrow F_is_row BK BH, b_is_row⟩
  have R2 : OneF l.prog w K mg base "is_tree" 3 ["book", "tree"] (spIsTree K CB) := ⟨_, _, gs a_is_tree, F_is_tree.kp, ok_istree F_is_tree GS.toGlob GR R1, b_is_tree⟩
  have R3 : OneX l.prog w K mg base "check_tree" 4 ["book", "tree"] (spCheck K CB D2) := ⟨_, _, gs a_check_tree, F_check_tree.kp, ok_check F_check_tree X_NoTree R2, b_check_tree⟩
  have P5 : OneF l.prog w K mg base "are_liked" 1 ["liked", "moods"] (spAreLiked K) := ⟨_, _, gs a_are_liked, F_are_liked.kp, ok_areliked F_are_liked, b_are_liked⟩
  have P1 : OneF l.prog w K mg base "is_rule" 2 ["book", "moods", "rule"] (spIsRule K CB) := ⟨_, _, gs a_is_rule, F_is_rule.kp, ok_isrule F_is_rule GS BK, b_is_rule⟩
  have P2 : OneF l.prog w K mg base "is_fitting" 1 ["wanted", "kids"] (spIsFit K) := ⟨_, _, gs a_is_fitting, F_is_fitting.kp, ok_isfit F_is_fitting GS GE, b_is_fitting⟩
  have FL : FnR l.prog w K mg base CX0 2 f_Guesser_lead (spGLead K CB CG) := ((ok_glead F_Guesser_lead GE GU TG P2).raw b_Guesser_lead .nil).imp fun vs H Q E h => by rw [List.append_nil]; exact h
  have R4 : OneF l.prog w K mg base "led" 3 ["book", "row", "lead"] (spLed K CB f_Guesser_lead (spGLead K CB CG)) := ⟨_, _, gs a_led, F_led.kp, ok_led F_led GS.toGlob GR GU BK FL (by decide) bm_Guesser_lead.fi, b_led⟩
  have K1 : OneM l.prog w K mg base CG "likes_one" 1 ["self", "moods"] (spGOne K CB CG) := ⟨_, _, m_Guesser_likes_one, ok_gone F_Guesser_likes_one GS TG, b_Guesser_likes_one⟩
  have K6 : OneMX l.prog w K mg base CG "moods_of" 5 ["self", "tree"] (spGOf K CB CG D2) := ⟨_, _, m_Guesser_moods_of, ok_gof F_Guesser_moods_of GY TG bm_Guesser_lead R3 R4, b_Guesser_moods_of⟩
  have K7 : OneMX l.prog w K mg base CG "likes" 6 ["self", "tree"] (spGLikes K CB CG D2) := ⟨_, _, m_Guesser_likes, ok_glikes F_Guesser_likes TG K6 K1, b_Guesser_likes⟩
  exact ok_law (fun_mk lk hcd kL) GW GE GY GI GX OT OS OR OP OLM T TG K6 K7 ⟨CG_Book.made, m_Book___init__.at_, m_Book___init__.fn, CG_Book.kc⟩ (ok_init F_Book___init__ GS T X_NoBook F_is_name (gs a_is_name) b_is_name F_is_sign (gs a_is_sign) b_is_sign F_are_signs (gs a_are_signs) b_are_signs) b_Book___init__
    ⟨CG_Guesser.made, m_Guesser___init__.at_, m_Guesser___init__.fn, CG_Guesser.kc⟩ (ok_ginit F_Guesser___init__ GS GE GY TG X_NoGuesser P1 P5) b_Guesser___init__
end TH
open PySem PySem.W PyProof.Rows
set_option maxRecDepth 100000 in
set_option maxHeartbeats 0 in
theorem PySem.Challenge.cw_treehands_k15_guessers_read_holds : PySem.Challenge.rw_treehands_k15_guessers_read.Holds := by
  w_on; o_law; k_head; (case hw => w_witness2)
  k_fill
  refine LamX.walk_ofTs (l := PySem.Challenge.rw_treehands_k15_guessers_read) (n := 63) (k := 7) (x := "_law_script") (CX := fun _ => L2.CX0) rfl (by decide) rfl ⟨rfl, by decide, by decide⟩ (fun w h Y => PySem.W.kIn_of Y) ?F (fun _ _ _ _ _ z => z)
  case F =>
    intro w mg fa h Y KX G hmg
    refine' TH.all_mk KX G hmg ?NG ?CG_Book ?CG_Guesser ?a_NoBook ?RG_NoBook ?a_NoTree ?RG_NoTree ?a_NoGuesser ?RG_NoGuesser ?D_is_name ?D_is_sign ?D_are_signs ?D_is_row ?D_is_tree ?D_check_tree ?D_led ?D_are_liked ?D_is_rule ?D_is_fitting ?D__law_box ?D__law_more ?D__law_take ?D__law_signs ?D__law_row ?D__law_guesser ?D__law_lead ?D__law_moods ?M_Book___init__ ?M_Book_many ?M_Book_has ?M_Book_kids ?M_Guesser___init__ ?M_Guesser_lead ?M_Guesser_likes_one ?M_Guesser_moods_of ?M_Guesser_likes ?k1 ?k2 ?k3 ?k4 ?k5 ?k6 ?aL ?lk ?hcd ?kL
    case NG => exact ⟨by k_is, by k_is, by k_is, by k_is, by k_is, by k_is, by k_is, by k_is, by k_is, by k_is, by k_is, by k_is, by k_is, by k_is, by k_is, by k_is⟩
    case CG_Book => (refine' TH.BookG.mk ?a ?pg ?hd ?po ?sa ?made ?kc ?n1 ?n2; (case a => k_is); (case pg => k_is); (case hd => k_is); (case po => k_is); (case sa => k_is); (case made => k_is); (case kc => k_is); (case n1 => k_is); (case n2 => k_is))
    case CG_Guesser => (refine' TH.GuesserG.mk ?a ?pg ?hd ?po ?sa ?made ?kc ?n1 ?n2 ?n3; (case a => k_is); (case pg => k_is); (case hd => k_is); (case po => k_is); (case sa => k_is); (case made => k_is); (case kc => k_is); (case n1 => k_is); (case n2 => k_is); (case n3 => k_is))
    case a_NoBook => k_is
    case RG_NoBook => (refine' TH.RaiseG.mk ?x ?k ?b ?t; (case x => kernel_rfl); (case k => k_is); (case b => k_is); (case t => k_is))
    case a_NoTree => k_is
    case RG_NoTree => (refine' TH.RaiseG.mk ?x ?k ?b ?t; (case x => kernel_rfl); (case k => k_is); (case b => k_is); (case t => k_is))
    case a_NoGuesser => k_is
    case RG_NoGuesser => (refine' TH.RaiseG.mk ?x ?k ?b ?t; (case x => kernel_rfl); (case k => k_is); (case b => k_is); (case t => k_is))
    case D_is_name => (refine' TH.defG_mk ?a ?l ?c ?k; (case a => k_is); (case l => k_is); (case c => k_is); (case k => k_is))
    case D_is_sign => (refine' TH.defG_mk ?a ?l ?c ?k; (case a => k_is); (case l => k_is); (case c => k_is); (case k => k_is))
    case D_are_signs => (refine' TH.defG_mk ?a ?l ?c ?k; (case a => k_is); (case l => k_is); (case c => k_is); (case k => k_is))
    case D_is_row => (refine' TH.defG_mk ?a ?l ?c ?k; (case a => k_is); (case l => k_is); (case c => k_is); (case k => k_is))
    case D_is_tree => (refine' TH.defG_mk ?a ?l ?c ?k; (case a => k_is); (case l => k_is); (case c => k_is); (case k => k_is))
    case D_check_tree => (refine' TH.defG_mk ?a ?l ?c ?k; (case a => k_is); (case l => k_is); (case c => k_is); (case k => k_is))
    case D_led => (refine' TH.defG_mk ?a ?l ?c ?k; (case a => k_is); (case l => k_is); (case c => k_is); (case k => k_is))
    case D_are_liked => (refine' TH.defG_mk ?a ?l ?c ?k; (case a => k_is); (case l => k_is); (case c => k_is); (case k => k_is))
    case D_is_rule => (refine' TH.defG_mk ?a ?l ?c ?k; (case a => k_is); (case l => k_is); (case c => k_is); (case k => k_is))
    case D_is_fitting => (refine' TH.defG_mk ?a ?l ?c ?k; (case a => k_is); (case l => k_is); (case c => k_is); (case k => k_is))
    case D__law_box => (refine' TH.defG_mk ?a ?l ?c ?k; (case a => k_is); (case l => k_is); (case c => k_is); (case k => k_is))
    case D__law_more => (refine' TH.defG_mk ?a ?l ?c ?k; (case a => k_is); (case l => k_is); (case c => k_is); (case k => k_is))
    case D__law_take => (refine' TH.defG_mk ?a ?l ?c ?k; (case a => k_is); (case l => k_is); (case c => k_is); (case k => k_is))
    case D__law_signs => (refine' TH.defG_mk ?a ?l ?c ?k; (case a => k_is); (case l => k_is); (case c => k_is); (case k => k_is))
    case D__law_row => (refine' TH.defG_mk ?a ?l ?c ?k; (case a => k_is); (case l => k_is); (case c => k_is); (case k => k_is))
    case D__law_guesser => (refine' TH.defG_mk ?a ?l ?c ?k; (case a => k_is); (case l => k_is); (case c => k_is); (case k => k_is))
    case D__law_lead => (refine' TH.defG_mk ?a ?l ?c ?k; (case a => k_is); (case l => k_is); (case c => k_is); (case k => k_is))
    case D__law_moods => (refine' TH.defG_mk ?a ?l ?c ?k; (case a => k_is); (case l => k_is); (case c => k_is); (case k => k_is))
    case M_Book___init__ => (refine' TH.methG_mk ?a ?i ?l ?c ?k; (case a => k_is); (case i => k_is); (case l => k_is); (case c => k_is); (case k => k_is))
    case M_Book_many => (refine' TH.methG_mk ?a ?i ?l ?c ?k; (case a => k_is); (case i => k_is); (case l => k_is); (case c => k_is); (case k => k_is))
    case M_Book_has => (refine' TH.methG_mk ?a ?i ?l ?c ?k; (case a => k_is); (case i => k_is); (case l => k_is); (case c => k_is); (case k => k_is))
    case M_Book_kids => (refine' TH.methG_mk ?a ?i ?l ?c ?k; (case a => k_is); (case i => k_is); (case l => k_is); (case c => k_is); (case k => k_is))
    case M_Guesser___init__ => (refine' TH.methG_mk ?a ?i ?l ?c ?k; (case a => k_is); (case i => k_is); (case l => k_is); (case c => k_is); (case k => k_is))
    case M_Guesser_lead => (refine' TH.bmethG_mk ?a ?i ?l ?c ?k ?gf ?tk ?cp ?fi; (case a => k_is); (case i => k_is); (case l => k_is); (case c => k_is); (case k => k_is); (case gf => k_is); (case tk => k_is); (case cp => decide +kernel); (case fi => k_is))
    case M_Guesser_likes_one => (refine' TH.methG_mk ?a ?i ?l ?c ?k; (case a => k_is); (case i => k_is); (case l => k_is); (case c => k_is); (case k => k_is))
    case M_Guesser_moods_of => (refine' TH.methG_mk ?a ?i ?l ?c ?k; (case a => k_is); (case i => k_is); (case l => k_is); (case c => k_is); (case k => k_is))
    case M_Guesser_likes => (refine' TH.methG_mk ?a ?i ?l ?c ?k; (case a => k_is); (case i => k_is); (case l => k_is); (case c => k_is); (case k => k_is))
    case k1 => k_is
    case k2 => k_is
    case k3 => k_is
    case k4 => k_is
    case k5 => k_is
    case k6 => k_is
    case aL => k_is
    case lk => k_is
    case hcd => k_is
    case kL => k_is
