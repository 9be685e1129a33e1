import PyProof.Rows.All
import Wide.All
import OpenK.AllK
import Wide.FinOn
import HandS.ForMost
import HandS.ForExc
import HandS.Evl
import HandS.Walk
import HandS.Wide
import HandS.WideBits
import HandS.SetBool
import HandS.SetKeys
import HandS.IsInst
import HandS.RevRange
import HandS.TupAny
import HandS.More
import HandS.Lambda
import HandS.Rev
import HandS.SortInts
import KE.SortData
import HandS.TupSets
import HandS.Deep
import PyProof.Rows.SetFrom
import HandS.DictComp
import HandS.Conv
import HandS.NestedK
import HandS.Strs
import HandS.Zip
import HandS.Style
import HandS.EndTab
import PySem.Challenge.RW_treehands_k13_what_shows_them_the_same
set_option Elab.async false
set_option linter.all false
set_option maxRecDepth 100000
set_option maxHeartbeats 4000000
namespace TH
open PySem PySem.Spec PyProof.Rows L2 Evl

/-! ### the box: a list of two ints whose values nobody asks for -/
def BoxAt (b : Addr) (h : Heap) : Prop :=
  ∃ (i j : Int) (t u : Tok) (n : Nat), h.get? b = some { cls := .type "list", data := .seq [Value.int i t, .int j u].toArray n }
def Box (b : Addr) : HO := .ext (BoxAt b)

theorem box_shut {P : Program} {w : World} {H H' : Hp} {h : Heap} {b : Addr} {i j : Int}
    (x : ObjOk P w H h b (.lst [.int i, .int j])) : ObjOk P w H' h b (Box b) := by
  obtain ⟨_, its, n, r, e⟩ := x
  cases r with
  | cons r1 r =>
    cases r with
    | cons r2 r =>
      cases r
      obtain ⟨t, rfl⟩ := r1
      obtain ⟨u, rfl⟩ := r2
      exact ⟨⟨i, j, t, u, n, e⟩, ⟨_, e⟩, fun h1 h2 ⟨i, j, t, u, n, q⟩ k => ⟨i, j, t, u, n, k _ q⟩⟩
theorem box_open {P : Program} {w : World} {H : Hp} {h : Heap} {b : Addr}
    (x : ObjOk P w H h b (Box b)) : ∃ i j : Int, ∀ H', ObjOk P w H' h b (.lst [.int i, .int j]) := by
  obtain ⟨⟨i, j, t, u, n, e⟩, _, _⟩ := x
  exact ⟨i, j, fun H' => ⟨by show 2 ≤ sizeLine; decide, _, n, .cons ⟨t, rfl⟩ (.cons ⟨u, rfl⟩ .nil), e⟩⟩
section
variable {X : Cx} {pins : List (Addr × Obj)} {σ : L2.St} {H : Hp} {s : Shared} {b : Addr}
theorem inv_swap {o o' : HO} (I : Inv X pins σ H s) (ho : H b = some o) (mu : Mut (some o))
    (lt : ∃ u, s.heap.get? b = some u) (new : ObjOk X.prog X.w (upd H b o') s.heap b o') : Inv X pins σ (upd H b o') s := by
  exact I.write (e := b) (t' := s.toks) (by rw [ho]; exact mu) (.inl rfl) (fun _ _ _ q => q) lt new
theorem inv_shut {i j : Int} (I : Inv X pins σ H s) (hb : H b = some (.lst [.int i, .int j])) : Inv X pins σ (upd H b (Box b)) s :=
  let ⟨_, _, _, _, e⟩ := I.hok b _ hb; inv_swap I hb trivial ⟨_, e⟩ (box_shut (I.hok b _ hb))
theorem inv_open (I : Inv X pins σ H s) (hb : H b = some (Box b)) : ∃ i j : Int, Inv X pins σ (upd H b (.lst [.int i, .int j])) s := by
  obtain ⟨i, j, k⟩ := box_open (I.hok b _ hb)
  exact ⟨i, j, inv_swap I hb trivial (I.hok b _ hb).2.1 (k _)⟩
theorem upd_same_eq {o : HO} (h : H b = some o) : upd H b o = H := by
  funext c
  unfold upd
  split
  · rename_i e
    rw [e, h]
  · rfl
end
section
variable {X : Cx}
/-- box[0], box[1] -/
def rIxBox : R2 := fun x y H Q => ∃ (b : Addr) (k : Int), x = .ref b ∧ y = .int k ∧ (k = 0 ∨ k = 1) ∧ H b = some (Box b) ∧ ∀ z, Q (.int z) H
theorem ix_box : IxR X rIxBox := by
  intro value slice pins s σ H x y v u Q I rx ry h hs
  obtain ⟨b, k, rfl, rfl, hk, hb, q⟩ := h
  obtain ⟨i, j, I1⟩ := inv_open I hb
  have hx : ∃ z, atI [V.int i, V.int j] k = some (.int z) := by
    rcases hk with rfl | rfl
    · exact ⟨i, rfl⟩
    · exact ⟨j, rfl⟩
  obtain ⟨z, hz⟩ := hx
  refine wpAny_mono (ix_list value slice pins s σ _ (.ref b) (.int k) v u (fun v H1 => v = .int z ∧ H1 = upd H b (.lst [.int i, .int j])) I1 rx ry ⟨b, _, k, _, rfl, rfl, SqL.of upd_same, hz, rfl, rfl⟩ hs) (fun w s1 hw => ?_) fun _ _ e => e
  obtain ⟨v1, H1, I2, r1, e1, e2⟩ := hw
  subst e1 e2
  have I3 := inv_shut I2 upd_same
  rw [upd_upd, upd_same_eq hb] at I3
  exact ⟨_, H, I3, r1, q z⟩
/-- box[0] = an int -/
def rSetBox : V → V → V → Hp → (Hp → Prop) → Prop := fun o i v H Q => ∃ (b : Addr) (k z : Int), o = .ref b ∧ i = .int k ∧ v = .int z ∧ (k = 0 ∨ k = 1) ∧ H b = some (Box b) ∧ Q H
theorem set_box : PSet X rSetBox := by
  intro pins s σ H o i v ov iv u Q I ro ri rv h
  obtain ⟨b, k, z, rfl, rfl, rfl, hk, hb, q⟩ := h
  obtain ⟨i0, j0, I1⟩ := inv_open I hb
  have hx : ∃ n i1 j1, ixN [V.int i0, V.int j0].length k = some n ∧ [V.int i0, V.int j0].set n (.int z) = [.int i1, .int j1] := by
    rcases hk with rfl | rfl
    · exact ⟨0, z, j0, rfl, rfl⟩
    · exact ⟨1, i0, z, rfl, rfl⟩
  obtain ⟨n, i1, j1, hn, hset⟩ := hx
  refine wpAny_mono (set_list pins s σ _ (.ref b) (.int k) (.int z) ov iv u (fun H1 => H1 = upd (upd H b (.lst [.int i0, .int j0])) b (.lst [.int i1, .int j1])) I1 ro ri rv ⟨b, _, k, n, rfl, rfl, upd_same, hn, by rw [hset]⟩) (fun _ s1 hw => ?_) fun _ _ e => e
  obtain ⟨H1, I2, e1⟩ := hw
  subst e1
  have I3 := inv_shut I2 upd_same
  rw [upd_upd, upd_upd, upd_same_eq hb] at I3
  exact ⟨H, I3, q⟩
/-- a value that is a new list of two ints becomes a box -/
theorem pe_shut {e : Expr} {t : TE} (h : PE X e t) : PE X e (fun σ H Q => t σ H fun v H1 => ∃ b i j, v = .ref b ∧ H1 b = some (.lst [.int i, .int j]) ∧ Q (.ref b) (upd H1 b (Box b))) := by
  refine ⟨fun pins s σ H Q I q => ?_⟩
  refine wpAny_mono (h.run pins s σ H _ I q) (fun u s1 hu => ?_) fun _ _ e => e
  obtain ⟨v, H1, I1, r1, b, i, j, rfl, hb, q1⟩ := hu
  exact ⟨.ref b, _, inv_shut I1 hb, r1, q1⟩
end
theorem divP {i j : Int} {b : Nat} (h : 0 < j) (hb : j.natAbs < 2 ^ b) (h0 : 0 < b) (h9 : b ≤ 9000) : CDivP i j :=
  ⟨h, PyProof.noPylong_of_log2 (Nat.lt_of_lt_of_le (PySem.Flt.log2_lt_of h0 hb) h9)⟩
end TH
set_option maxRecDepth 100000
set_option maxHeartbeats 4000000
namespace TH
open PySem L2 Evl
/-! ### data as it lies in the heap, its lists apart from the ones that are being changed (M) -/
mutual
inductive Dt (K : PySem.W.Frag) (M : Addr → Prop) (H : Hp) : V → PyData → Prop
  | non : Dt K M H .non .none
  | bl (b : Bool) : Dt K M H (.bl b) (.bool b)
  | int (i : Int) : Dt K M H (.int i) (.int i)
  | str (x : Str) : Dt K M H (.str x) (.str x)
  | lst {a : Addr} {xs : List V} {ds : List PyData} : H a = some (.lst xs) → ¬ M a → Dts K M H xs ds → Dt K M H (.ref a) (.list ds)
  | tup {a : Addr} {xs : List V} {ds : List PyData} : H a = some (.tup xs) → Dts K M H xs ds → Dt K M H (.ref a) (.tuple ds)
inductive Dts (K : PySem.W.Frag) (M : Addr → Prop) (H : Hp) : List V → List PyData → Prop
  | nil : Dts K M H [] []
  | cons {v : V} {vs : List V} {d : PyData} {ds : List PyData} : Dt K M H v d → Dts K M H vs ds → Dts K M H (v :: vs) (d :: ds)
end
section
variable {K : PySem.W.Frag} {M M' : Addr → Prop} {H H' H1 H2 : Hp}
mutual
/-- data in another heap, lists and tuples kept -/
theorem Dt.move (hl : ∀ a xs, H a = some (.lst xs) → ¬ M a → H' a = some (.lst xs) ∧ ¬ M' a) (ht : ∀ a xs, H a = some (.tup xs) → H' a = some (.tup xs)) : ∀ (d : PyData) (v : V), Dt K M H v d → Dt K M' H' v d
  | .none, _, h => by cases h; exact .non
  | .bool b, _, h => by cases h; exact .bl b
  | .int i, _, h => by cases h; exact .int i
  | .str x, _, h => by cases h; exact .str x
  | .list ds, _, h => by
    cases h with
    | lst h1 h2 h3 => exact .lst (hl _ _ h1 h2).1 (hl _ _ h1 h2).2 (Dts.move hl ht ds _ h3)
  | .tuple ds, _, h => by
    cases h with
    | tup h1 h3 => exact .tup (ht _ _ h1) (Dts.move hl ht ds _ h3)
  | .dict _, _, h => by cases h
theorem Dts.move (hl : ∀ a xs, H a = some (.lst xs) → ¬ M a → H' a = some (.lst xs) ∧ ¬ M' a) (ht : ∀ a xs, H a = some (.tup xs) → H' a = some (.tup xs)) : ∀ (ds : List PyData) (vs : List V), Dts K M H vs ds → Dts K M' H' vs ds
  | [], _, h => by cases h; exact .nil
  | d :: ds, _, h => by
    cases h with
    | cons h1 h2 => exact .cons (Dt.move hl ht d _ h1) (Dts.move hl ht ds _ h2)
end
mutual
theorem Dt.dp : ∀ (d : PyData) (v : V), Dt K M H v d → Dp K H v d
  | .none, _, h => by cases h; exact .non
  | .bool b, _, h => by cases h; exact .bl b
  | .int i, _, h => by cases h; exact .int i
  | .str x, _, h => by cases h; exact .str x
  | .list ds, _, h => by
    cases h with
    | lst h1 h2 h3 => exact .lst (sq_of h1) (Dts.dp ds _ h3)
  | .tuple ds, _, h => by
    cases h with
    | tup h1 h3 => exact .tup (SqT.of h1) (Dts.dp ds _ h3)
  | .dict _, _, h => by cases h
theorem Dts.dp : ∀ (ds : List PyData) (vs : List V), Dts K M H vs ds → DpAll K H vs ds
  | [], _, h => by cases h; exact .nil
  | d :: ds, _, h => by
    cases h with
    | cons h1 h2 => exact .cons (Dt.dp d _ h1) (Dts.dp ds _ h2)
end
theorem Dt.ex {v : V} {d : PyData} (h : Dt K M H v d) (e : Ex H H') : Dt K M H' v d := Dt.move (fun a xs h n => ⟨e _ _ h, n⟩) (fun a xs h => e _ _ h) d v h
theorem Dts.ex {vs : List V} {ds : List PyData} (h : Dts K M H vs ds) (e : Ex H H') : Dts K M H' vs ds := Dts.move (fun a xs h n => ⟨e _ _ h, n⟩) (fun a xs h => e _ _ h) ds vs h
theorem Dt.weak {v : V} {d : PyData} (h : Dt K M H v d) (m : ∀ a, M' a → M a) : Dt K M' H v d := Dt.move (fun a xs h n => ⟨h, fun z => n (m a z)⟩) (fun a xs h => h) d v h
theorem Dts.weak {vs : List V} {ds : List PyData} (h : Dts K M H vs ds) (m : ∀ a, M' a → M a) : Dts K M' H vs ds := Dts.move (fun a xs h n => ⟨h, fun z => n (m a z)⟩) (fun a xs h => h) ds vs h
theorem sqt_upd {a l : Addr} {xs ys : List V} {o : HO} (hl : H l = some (.lst ys)) (h : SqT K H a xs) : SqT K (upd H l o) a xs := by
  have ne : ∀ u, H a = some u → (∀ zs, u ≠ .lst zs) → a ≠ l := fun u h1 h2 z => by
    subst z
    rw [hl] at h1
    exact h2 ys (Option.some.inj h1).symm
  rcases h with (h | ⟨u, h⟩) | h
  · exact .inl (.inl (by rw [upd_ne (ne _ h fun zs z => by cases z)]; exact h))
  · exact .inl (.inr ⟨u, by rw [upd_ne (ne _ h fun zs z => by cases z)]; exact h⟩)
  · exact .inr h
theorem Dt.upd {v : V} {d : PyData} {l : Addr} {ys : List V} {o : HO} (h : Dt K M H v d) (hl : H l = some (.lst ys)) (m : M l) : Dt K M (L2.upd H l o) v d :=
  Dt.move (fun a xs h n => ⟨by rw [upd_ne (show a ≠ l from fun z => n (by rw [z]; exact m))]; exact h, n⟩) (fun a xs h => by rw [upd_ne (ne_of h hl (by intro z; cases z))]; exact h) d v h
theorem Dts.upd {vs : List V} {ds : List PyData} {l : Addr} {ys : List V} {o : HO} (h : Dts K M H vs ds) (hl : H l = some (.lst ys)) (m : M l) : Dts K M (L2.upd H l o) vs ds :=
  Dts.move (fun a xs h n => ⟨by rw [upd_ne (show a ≠ l from fun z => n (by rw [z]; exact m))]; exact h, n⟩) (fun a xs h => by rw [upd_ne (ne_of h hl (by intro z; cases z))]; exact h) ds vs h
theorem Dts.length : ∀ {vs : List V} {ds : List PyData}, Dts K M H vs ds → vs.length = ds.length
  | _, _, .nil => rfl
  | _, _, .cons _ t => by rw [List.length_cons, List.length_cons, Dts.length t]
theorem Dts.get : ∀ {vs : List V} {ds : List PyData} {i : Nat} {v : V}, Dts K M H vs ds → vs[i]? = some v → ∃ d, ds[i]? = some d ∧ Dt K M H v d
  | _, _, _, _, .nil, e => by simp at e
  | _, _, 0, _, .cons r _, e => by simp at e; subst e; exact ⟨_, rfl, r⟩
  | _, _, i + 1, v, .cons _ t, e => by
    obtain ⟨u, h1, h2⟩ := Dts.get (i := i) (v := v) t (by simpa using e)
    exact ⟨u, by simpa using h1, h2⟩
theorem Dts.at : ∀ {vs : List V} {ds : List PyData} {i : Nat} {d : PyData}, Dts K M H vs ds → ds[i]? = some d → ∃ v, vs[i]? = some v ∧ Dt K M H v d
  | _, _, _, _, .nil, e => by simp at e
  | _, _, 0, _, .cons r _, e => by simp at e; subst e; exact ⟨_, rfl, r⟩
  | _, _, i + 1, v, .cons _ t, e => by
    obtain ⟨u, h1, h2⟩ := Dts.at (i := i) (d := v) t (by simpa using e)
    exact ⟨u, by simpa using h1, h2⟩
theorem Dts.append : ∀ {xs ys : List V} {ds es : List PyData}, Dts K M H xs ds → Dts K M H ys es → Dts K M H (xs ++ ys) (ds ++ es)
  | _, _, _, _, .nil, s => s
  | _, _, _, _, .cons r t, s => .cons r (Dts.append t s)
theorem Dts.one {v : V} {d : PyData} (h : Dt K M H v d) : Dts K M H [v] [d] := .cons h .nil
theorem Dts.take : ∀ {xs : List V} {ds : List PyData} (n : Nat), Dts K M H xs ds → Dts K M H (xs.take n) (ds.take n)
  | _, _, 0, _ => .nil
  | _, _, _ + 1, .nil => .nil
  | _, _, n + 1, .cons r t => .cons r (Dts.take n t)
theorem Dts.drop : ∀ {xs : List V} {ds : List PyData} (n : Nat), Dts K M H xs ds → Dts K M H (xs.drop n) (ds.drop n)
  | _, _, 0, r => r
  | _, _, _ + 1, .nil => .nil
  | _, _, n + 1, .cons _ t => Dts.drop n t
theorem Dts.set : ∀ {xs : List V} {ds : List PyData} {v : V} {d : PyData} (i : Nat), Dt K M H v d → Dts K M H xs ds → Dts K M H (xs.set i v) (ds.set i d)
  | _, _, _, _, _, _, .nil => .nil
  | _, _, _, _, 0, r, .cons _ t => .cons r t
  | _, _, _, _, n + 1, r, .cons q t => .cons q (Dts.set n r t)
theorem Dts.reverse : ∀ {xs : List V} {ds : List PyData}, Dts K M H xs ds → Dts K M H xs.reverse ds.reverse
  | _, _, .nil => .nil
  | _, _, .cons r t => by
    rw [List.reverse_cons, List.reverse_cons]
    exact Dts.append (Dts.reverse t) (.one r)
/-- a part of a list -/
def cutG {α : Type} (xs : List α) (lo hi : Option Int) : List α := (xs.drop (HT.sIx xs.length 0 lo)).take (HT.sIx xs.length xs.length hi - HT.sIx xs.length 0 lo)
theorem Dts.cut {xs : List V} {ds : List PyData} {lo hi : Option Int} (h : Dts K M H xs ds) : Dts K M H (cutV xs lo hi) (cutG ds lo hi) := by
  unfold cutV cutG
  rw [h.length]
  exact (h.drop _).take _
theorem Dts.ints : ∀ {vs : List V} (ns : List Int), Dts K M H vs (ns.map PyData.int) → vs = ns.map V.int
  | _, [], .nil => rfl
  | _, n :: ns, .cons (.int _) t => by rw [Dts.ints ns t]; rfl
theorem Dts.strs : ∀ {vs : List V} (ns : List Str), Dts K M H vs (ns.map PyData.str) → vs = ns.map V.str
  | _, [], .nil => rfl
  | _, n :: ns, .cons (.str _) t => by rw [Dts.strs ns t]; rfl
theorem Dts.bls : ∀ {vs : List V} (ns : List Bool), Dts K M H vs (ns.map PyData.bool) → vs = ns.map V.bl
  | _, [], .nil => rfl
  | _, n :: ns, .cons (.bl _) t => by rw [Dts.bls ns t]; rfl
theorem Dts.of_ints : ∀ (ns : List Int), Dts K M H (ns.map V.int) (ns.map PyData.int)
  | [] => .nil
  | n :: ns => .cons (.int n) (Dts.of_ints ns)
theorem Dts.of_strs : ∀ (ns : List Str), Dts K M H (ns.map V.str) (ns.map PyData.str)
  | [] => .nil
  | n :: ns => .cons (.str n) (Dts.of_strs ns)

/-! ### what an expression gives, as data -/
/-- the changing ones are all known -/
def Ok (M : Addr → Prop) (H : Hp) : Prop := ∀ l, M l → H l ≠ none
theorem Ok.ex (h : Ok M H) (e : Ex H H') : Ok M H' := fun l m z => by
  cases q : H l with
  | none => exact h l m q
  | some o =>
    rw [e l o q] at z
    cases z
theorem Ok.new (h : Ok M H) {p : Addr} (n : H p = none) : ¬ M p := fun m => h p m n
def EvP (K : PySem.W.Frag) (M : Addr → Prop) (te : TE) (σ : L2.St) (H : Hp) (P : PyData → Prop) : Prop :=
  ∀ H1, Ex H H1 → ∀ Q : VK, (∀ v d H2, Ex H1 H2 → Dt K M H2 v d → P d → Q v H2) → te σ H1 Q
def EvPA (K : PySem.W.Frag) (M : Addr → Prop) (ta : TA) (σ : L2.St) (H : Hp) (P : List PyData → Prop) : Prop :=
  ∀ H1, Ex H H1 → ∀ Q : List V → Hp → Prop, (∀ vs ds H2, Ex H1 H2 → Dts K M H2 vs ds → P ds → Q vs H2) → ta σ H1 Q
abbrev EvD (K : PySem.W.Frag) (M : Addr → Prop) (te : TE) (σ : L2.St) (H : Hp) (d : PyData) : Prop := EvP K M te σ H (· = d)
abbrev EvDA (K : PySem.W.Frag) (M : Addr → Prop) (ta : TA) (σ : L2.St) (H : Hp) (ds : List PyData) : Prop := EvPA K M ta σ H (· = ds)
end
section
variable {K : PySem.W.Frag} {M : Addr → Prop} {H H' : Hp} {σ : L2.St} {ta tb te tc : TE} {r : R2} {P PA PB : PyData → Prop} {d d1 d2 : PyData}
theorem EvP.use (h : EvP K M te σ H P) {Q : VK} (q : ∀ v d H2, Ex H H2 → Dt K M H2 v d → P d → Q v H2) : te σ H Q := h H (Ex.refl H) Q q
theorem EvP.ex (h : EvP K M te σ H P) (e : Ex H H') : EvP K M te σ H' P := fun H1 e1 => h H1 (e.trans e1)
theorem EvPA.use {ta : TA} {P : List PyData → Prop} (h : EvPA K M ta σ H P) {Q : List V → Hp → Prop} (q : ∀ vs ds H2, Ex H H2 → Dts K M H2 vs ds → P ds → Q vs H2) : ta σ H Q := h H (Ex.refl H) Q q
theorem EvPA.ex {ta : TA} {P : List PyData → Prop} (h : EvPA K M ta σ H P) (e : Ex H H') : EvPA K M ta σ H' P := fun H1 e1 => h H1 (e.trans e1)
theorem EvP.mono (h : EvP K M te σ H P) (k : ∀ d, P d → PA d) : EvP K M te σ H PA := fun H1 e Q q => h H1 e Q fun v d H2 e2 hd hp => q v d H2 e2 hd (k d hp)
/-- data from a value that is known -/
theorem evd_of {v : V} (h : Ev te σ H v) (hd : Dt K M H v d) : EvD K M te σ H d := fun H1 e Q q => h H1 e Q fun H2 e2 => q v d H2 e2 (hd.ex (e.trans e2)) rfl
theorem evd_var {i : Nat} {v : V} (h : σ[i]? = some (some v)) (hd : Dt K M H v d) : EvD K M (tVar i) σ H d := evd_of (ev_var h) hd
theorem evd_int {i : Int} : EvD K M (tC (.int i)) σ H (.int i) := evd_of ev_c (.int i)
theorem evd_str {x : Str} : EvD K M (tC (.str x)) σ H (.str x) := evd_of ev_c (.str x)
theorem evd_bl {b : Bool} : EvD K M (tC (.bl b)) σ H (.bool b) := evd_of ev_c (.bl b)
theorem evd_non : EvD K M (tC .non) σ H .none := evd_of ev_c .non
/-- an operator, by its rule on data -/
theorem evp_op (ha : EvP K M ta σ H PA) (hb : EvP K M tb σ H PB)
    (hr : ∀ x y a b H1, Ex H H1 → Dt K M H1 x a → Dt K M H1 y b → PA a → PB b → ∀ Q : VK, (∀ v d H2, Ex H1 H2 → Dt K M H2 v d → P d → Q v H2) → r x y H1 Q) : EvP K M (tOp r ta tb) σ H P := fun H1 e Q q =>
  ha H1 e _ fun x a H2 e2 dx px => hb H2 (e.trans e2) _ fun y b H3 e3 dy py => hr x y a b H3 ((e.trans e2).trans e3) (dx.ex e3) dy px py Q fun v d H4 e4 dv pv => q v d H4 ((e2.trans e3).trans e4) dv pv
/-- two ints -/
theorem evp_I0 {g : Int → Int → V} (ha : EvP K M ta σ H PA) (hb : EvP K M tb σ H PB) (hg : ∀ a b, PA a → PB b → ∃ i j, a = .int i ∧ b = .int j ∧ ∃ d, P d ∧ ∀ H', Dt K M H' (g i j) d) : EvP K M (tOp (rI0 g) ta tb) σ H P :=
  evp_op ha hb fun x y a b H1 e dx dy px py Q q => by
    obtain ⟨i, j, rfl, rfl, d, pd, hd⟩ := hg a b px py
    cases dx
    cases dy
    exact ⟨i, j, rfl, rfl, q _ d H1 (Ex.refl _) (hd _) pd⟩
theorem evp_I {C : Int → Int → Prop} {g : Int → Int → V} (ha : EvP K M ta σ H PA) (hb : EvP K M tb σ H PB) (hg : ∀ a b, PA a → PB b → ∃ i j, a = .int i ∧ b = .int j ∧ C i j ∧ ∃ d, P d ∧ ∀ H', Dt K M H' (g i j) d) : EvP K M (tOp (rI C g) ta tb) σ H P :=
  evp_op ha hb fun x y a b H1 e dx dy px py Q q => by
    obtain ⟨i, j, rfl, rfl, hc, d, pd, hd⟩ := hg a b px py
    cases dx
    cases dy
    exact ⟨i, j, rfl, rfl, hc, q _ d H1 (Ex.refl _) (hd _) pd⟩
theorem evd_add {i j : Int} (ha : EvD K M ta σ H (.int i)) (hb : EvD K M tb σ H (.int j)) : EvD K M (tOp (rI0 fun i j => .int (i + j)) ta tb) σ H (.int (i + j)) :=
  evp_I0 ha hb fun a b pa pb => ⟨i, j, pa, pb, _, rfl, fun _ => .int _⟩
theorem evd_sub {i j : Int} (ha : EvD K M ta σ H (.int i)) (hb : EvD K M tb σ H (.int j)) : EvD K M (tOp (rI0 fun i j => .int (i - j)) ta tb) σ H (.int (i - j)) :=
  evp_I0 ha hb fun a b pa pb => ⟨i, j, pa, pb, _, rfl, fun _ => .int _⟩
theorem evd_cmp {g : Int → Int → Bool} {i j : Int} (ha : EvD K M ta σ H (.int i)) (hb : EvD K M tb σ H (.int j)) : EvD K M (tOp (rI0 fun i j => .bl (g i j)) ta tb) σ H (.bool (g i j)) :=
  evp_I0 ha hb fun a b pa pb => ⟨i, j, pa, pb, _, rfl, fun _ => .bl _⟩
/-- == of ints, of texts -/
theorem evd_eqI {i j : Int} (ha : EvD K M ta σ H (.int i)) (hb : EvD K M tb σ H (.int j)) : EvD K M (tOp rEq ta tb) σ H (.bool (decide (i = j))) :=
  evp_op ha hb fun x y a b H1 e dx dy px py Q q => by
    subst px py
    cases dx
    cases dy
    refine ⟨rfl, q _ _ H1 (Ex.refl _) (.bl _) ?_⟩
    simp
theorem evd_neI {i j : Int} (ha : EvD K M ta σ H (.int i)) (hb : EvD K M tb σ H (.int j)) : EvD K M (tOp rNe ta tb) σ H (.bool (!decide (i = j))) :=
  evp_op ha hb fun x y a b H1 e dx dy px py Q q => by
    subst px py
    cases dx
    cases dy
    refine ⟨rfl, q _ _ H1 (Ex.refl _) (.bl _) ?_⟩
    simp
theorem evd_eqS {i j : Str} (ha : EvD K M ta σ H (.str i)) (hb : EvD K M tb σ H (.str j)) : EvD K M (tOp rEq ta tb) σ H (.bool (decide (i = j))) :=
  evp_op ha hb fun x y a b H1 e dx dy px py Q q => by
    subst px py
    cases dx
    cases dy
    refine ⟨rfl, q _ _ H1 (Ex.refl _) (.bl _) ?_⟩
    simp
theorem evd_neS {i j : Str} (ha : EvD K M ta σ H (.str i)) (hb : EvD K M tb σ H (.str j)) : EvD K M (tOp rNe ta tb) σ H (.bool (!decide (i = j))) :=
  evp_op ha hb fun x y a b H1 e dx dy px py Q q => by
    subst px py
    cases dx
    cases dy
    refine ⟨rfl, q _ _ H1 (Ex.refl _) (.bl _) ?_⟩
    simp
/-- arguments -/
theorem eva_nil : EvDA K M tNil σ H [] := fun H1 e Q q => q [] [] H1 (Ex.refl _) .nil rfl
theorem evpa_cons {tr : TA} {PR : List PyData → Prop} (ha : EvP K M ta σ H PA) (hr : EvPA K M tr σ H PR) : EvPA K M (tCons ta tr) σ H (fun l => ∃ a ds, l = a :: ds ∧ PA a ∧ PR ds) := fun H1 e Q q =>
  ha H1 e _ fun x a H2 e2 dx px => hr H2 (e.trans e2) _ fun vs ds H3 e3 dv pv => q _ _ H3 (e2.trans e3) (.cons (dx.ex e3) dv) ⟨a, ds, rfl, px, pv⟩
theorem eva_cons {tr : TA} {ds : List PyData} (ha : EvD K M ta σ H d) (hr : EvDA K M tr σ H ds) : EvDA K M (tCons ta tr) σ H (d :: ds) := fun H1 e Q q =>
  ha H1 e _ fun x a H2 e2 dx px => hr H2 (e.trans e2) _ fun vs es H3 e3 dv pv => q _ _ H3 (e2.trans e3) (.cons (dx.ex e3) dv) (by rw [px, pv])
/-- displays -/
theorem evp_tup {t : TA} {PL : List PyData → Prop} (h : EvPA K M t σ H PL) (hl : ∀ ds, PL ds → ds.length ≤ sizeLine) : EvP K M (tTup t) σ H (fun d => ∃ ds, d = .tuple ds ∧ PL ds) := fun H1 e Q q =>
  h H1 e _ fun vs ds H2 e2 dv pv => ⟨by rw [dv.length]; exact hl ds pv, fun p hp => q _ _ _ (e2.trans (Ex.new hp)) (.tup upd_same (dv.ex (Ex.new hp))) ⟨ds, rfl, pv⟩⟩
theorem evd_tup {t : TA} {ds : List PyData} (h : EvDA K M t σ H ds) (hl : ds.length ≤ sizeLine := by decide) : EvD K M (tTup t) σ H (.tuple ds) := fun H1 e Q q =>
  h H1 e _ fun vs es H2 e2 dv pv => ⟨by rw [dv.length, pv]; exact hl, fun p hp => q _ _ _ (e2.trans (Ex.new hp)) (.tup upd_same (dv.ex (Ex.new hp))) (by rw [pv])⟩
theorem evp_lst {t : TA} {PL : List PyData → Prop} (ok : Ok M H) (h : EvPA K M t σ H PL) (hl : ∀ ds, PL ds → ds.length ≤ sizeLine) : EvP K M (tLst t) σ H (fun d => ∃ ds, d = .list ds ∧ PL ds) := fun H1 e Q q =>
  h H1 e _ fun vs ds H2 e2 dv pv => ⟨by rw [dv.length]; exact hl ds pv, fun p hp => q _ _ _ (e2.trans (Ex.new hp)) (.lst upd_same ((ok.ex (e.trans e2)).new hp) (dv.ex (Ex.new hp))) ⟨ds, rfl, pv⟩⟩
theorem evd_lst {t : TA} {ds : List PyData} (ok : Ok M H) (h : EvDA K M t σ H ds) (hl : ds.length ≤ sizeLine := by decide) : EvD K M (tLst t) σ H (.list ds) := fun H1 e Q q =>
  h H1 e _ fun vs es H2 e2 dv pv => ⟨by rw [dv.length, pv]; exact hl, fun p hp => q _ _ _ (e2.trans (Ex.new hp)) (.lst upd_same ((ok.ex (e.trans e2)).new hp) (dv.ex (Ex.new hp))) (by rw [pv])⟩
/-- an item of a list, of a tuple -/
theorem evd_ixL {ds : List PyData} {i : Int} {j : Nat} (ha : EvD K M ta σ H (.list ds)) (hb : EvD K M tb σ H (.int i)) (hi : i = (j : Int)) (hj : ds[j]? = some d) : EvD K M (tOp (rIxL K) ta tb) σ H d :=
  evp_op ha hb fun x y a b H1 e dx dy px py Q q => by
    subst px py
    cases dx with
    | lst h1 h2 h3 =>
      cases dy
      obtain ⟨v, hv, dv⟩ := h3.at hj
      exact ⟨_, _, _, v, rfl, rfl, sq_of h1, by rw [hi]; exact atI_nat hv, q v d H1 (Ex.refl _) dv rfl⟩
theorem evd_ixT {ds : List PyData} {i : Int} {j : Nat} (ha : EvD K M ta σ H (.tuple ds)) (hb : EvD K M tb σ H (.int i)) (hi : i = (j : Int)) (hj : ds[j]? = some d) : EvD K M (tOp (rIxT K) ta tb) σ H d :=
  evp_op ha hb fun x y a b H1 e dx dy px py Q q => by
    subst px py
    cases dx with
    | tup h1 h3 =>
      cases dy
      obtain ⟨v, hv, dv⟩ := h3.at hj
      exact ⟨_, _, _, v, rfl, rfl, SqT.of h1, by rw [hi]; exact atI_nat hv, q v d H1 (Ex.refl _) dv rfl⟩
/-- a part of a list, two lists together, list(..) -/
def EvPO (K : PySem.W.Frag) (M : Addr → Prop) (t : TO) (σ : L2.St) (H : Hp) (o : Option Int) : Prop := ∀ H1, Ex H H1 → ∀ Q : Option Int → Hp → Prop, (∀ H2, Ex H1 H2 → Q o H2) → t σ H1 Q
theorem evo_none : EvPO K M tNoPart σ H none := fun H1 e Q q => q H1 (Ex.refl _)
theorem evo_some {i : Int} (h : EvD K M te σ H (.int i)) : EvPO K M (tPart te) σ H (some i) := fun H1 e Q q =>
  h H1 e _ fun v d H2 e2 dv pd => by
    subst pd
    cases dv
    exact ⟨i, rfl, q H2 e2⟩
theorem evd_slL {ds : List PyData} {tl th : TO} {lo hi : Option Int} (ok : Ok M H) (ha : EvD K M ta σ H (.list ds)) (hl : EvPO K M tl σ H lo) (hh : EvPO K M th σ H hi) : EvD K M (tSl (rSlL K) ta tl th) σ H (.list (cutG ds lo hi)) := fun H1 e Q q =>
  ha H1 e _ fun v d H2 e2 dv pd => hl H2 (e.trans e2) _ fun H3 e3 => hh H3 ((e.trans e2).trans e3) _ fun H4 e4 => by
    subst pd
    cases dv.ex (e3.trans e4) with
    | lst h1 h2 h3 => exact ⟨_, _, rfl, sq_of h1, fun p hp => q _ _ _ (((e2.trans e3).trans e4).trans (Ex.new hp)) (.lst upd_same ((ok.ex (((e.trans e2).trans e3).trans e4)).new hp) (h3.cut.ex (Ex.new hp))) rfl⟩
theorem evd_slS {z : Str} {tl th : TO} {lo hi : Option Int} (ha : EvD K M ta σ H (.str z)) (hz : z.length ≤ sizeLine) (hl : EvPO K M tl σ H lo) (hh : EvPO K M th σ H hi) : EvD K M (tSl (fun x lo hi H Q => ∃ z, x = .str z ∧ z.length ≤ sizeLine ∧ Q (.str (cutS z lo hi)) H) ta tl th) σ H (.str (cutS z lo hi)) := fun H1 e Q q =>
  ha H1 e _ fun v d H2 e2 dv pd => hl H2 (e.trans e2) _ fun H3 e3 => hh H3 ((e.trans e2).trans e3) _ fun H4 e4 => by
    subst pd
    cases dv
    exact ⟨_, rfl, hz, q _ _ H4 ((e2.trans e3).trans e4) (.str _) rfl⟩
theorem evd_cat {ds es : List PyData} (ok : Ok M H) (ha : EvD K M ta σ H (.list ds)) (hb : EvD K M tb σ H (.list es)) (hs : ds.length + es.length ≤ sizeLine) : EvD K M (tOp rCat ta tb) σ H (.list (ds ++ es)) :=
  evp_op ha hb fun x y a b H1 e dx dy px py Q q => by
    subst px py
    cases dx with
    | lst h1 h2 h3 =>
      cases dy with
      | lst k1 k2 k3 => exact ⟨_, _, _, _, rfl, rfl, h1, k1, by rw [h3.length, k3.length]; exact hs, fun p hp => q _ _ _ (Ex.new hp) (.lst upd_same ((ok.ex e).new hp) ((h3.append k3).ex (Ex.new hp))) rfl⟩
theorem evd_addS {i j : Str} (ha : EvD K M ta σ H (.str i)) (hb : EvD K M tb σ H (.str j)) (hs : i.length + j.length ≤ sizeLine) : EvD K M (tOp (fun x y H Q => ∃ i j, x = .str i ∧ y = .str j ∧ i.length + j.length ≤ sizeLine ∧ Q (.str (i ++ j)) H) ta tb) σ H (.str (i ++ j)) :=
  evp_op ha hb fun x y a b H1 e dx dy px py Q q => by
    subst px py
    cases dx
    cases dy
    exact ⟨i, j, rfl, rfl, hs, q _ _ H1 (Ex.refl _) (.str _) rfl⟩
/-- a built-in, an own def -/
theorem evp_cb {r : List V → Hp → VK → Prop} {t : TA} {PL : List PyData → Prop} (h : EvPA K M t σ H PL)
    (hr : ∀ vs ds H1, Ex H H1 → Dts K M H1 vs ds → PL ds → ∀ Q : VK, (∀ v d H2, Ex H1 H2 → Dt K M H2 v d → P d → Q v H2) → r vs H1 Q) : EvP K M (tCB r t) σ H P := fun H1 e Q q =>
  h H1 e _ fun vs ds H2 e2 dv pv => hr vs ds H2 (e.trans e2) dv pv Q fun v d H3 e3 dd pd => q v d H3 (e2.trans e3) dd pd
/-- the promise of a def from data to data -/
def spD (K : PySem.W.Frag) (A : List PyData → Prop) (B : List PyData → PyData → Prop) : Sp := fun vs H Q _ =>
  ∃ (M : Addr → Prop) (ds : List PyData), Ok M H ∧ Dts K M H vs ds ∧ A ds ∧ ∀ v d H', Ex H H' → Dt K M H' v d → B ds d → Q v H'
theorem evp_call {A : List PyData → Prop} {B : List PyData → PyData → Prop} {E : XK} {t : TA} {PL : List PyData → Prop} (ok : Ok M H) (h : EvPA K M t σ H PL) (ha : ∀ ds, PL ds → A ds) : EvP K M (tCall (spD K A B) [] E t) σ H (fun d => ∃ ds, PL ds ∧ B ds d) := fun H1 e Q q =>
  h H1 e _ fun vs ds H2 e2 dv pv => ⟨M, ds, ok.ex (e.trans e2), by rw [List.append_nil]; exact dv, ha ds pv, fun v d H3 e3 dd pd => q v d H3 (e2.trans e3) dd ⟨ds, pv, pd⟩⟩
theorem evd_call {A : List PyData → Prop} {F : List PyData → PyData} {E : XK} {t : TA} {ds : List PyData} (ok : Ok M H) (h : EvDA K M t σ H ds) (ha : A ds) : EvD K M (tCall (spD K A fun ds d => d = F ds) [] E t) σ H (F ds) :=
  (evp_call ok h fun es pe => by rw [pe]; exact ha).mono fun d ⟨es, pe, pd⟩ => by rw [pd, pe]
/-- tests -/
theorem EvT.use {t : TT} {b : Bool} (h : EvT t σ H b) {Q : Bool → Hp → Prop} (q : ∀ H2, Ex H H2 → Q b H2) : t σ H Q := h H (Ex.refl H) Q q
theorem evt_test {b : Bool} (h : EvD K M te σ H (.bool b)) : EvT (tTest te) σ H b := fun H1 e Q q => h H1 e _ fun v d H2 e2 dv pd => by
  subst pd
  cases dv
  exact ⟨b, rfl, q H2 e2⟩
theorem evt_B {b : Bool} (h : EvD K M te σ H (.bool b)) : EvT (tB te) σ H b := fun H1 e Q q => h H1 e _ fun v d H2 e2 dv pd => by
  subst pd
  cases dv
  exact ⟨b, rfl, q H2 e2⟩
theorem evt_yes : EvT tYes σ H true := fun H1 e Q q => q H1 (Ex.refl _)
theorem evd_andV {a b : Bool} (ha : EvD K M ta σ H (.bool a)) (hb : a = true → EvD K M tb σ H (.bool b)) : EvD K M (tAndV ta tb) σ H (.bool (a && b)) := fun H1 e Q q => ha H1 e _ fun v d H2 e2 dv pd => by
  subst pd
  cases dv
  refine ⟨a, rfl, ?_⟩
  cases a with
  | true => exact iteT (hb rfl H2 (e.trans e2) _ fun v d H3 e3 dv pd => q v d H3 (e2.trans e3) dv (by rw [pd]; rfl))
  | false => exact iteF (q _ _ H2 e2 (.bl _) rfl)
theorem evd_orV {a b : Bool} (ha : EvD K M ta σ H (.bool a)) (hb : a = false → EvD K M tb σ H (.bool b)) : EvD K M (tOrV ta tb) σ H (.bool (a || b)) := fun H1 e Q q => ha H1 e _ fun v d H2 e2 dv pd => by
  subst pd
  cases dv
  refine ⟨a, rfl, ?_⟩
  cases a with
  | false => exact iteF (hb rfl H2 (e.trans e2) _ fun v d H3 e3 dv pd => q v d H3 (e2.trans e3) dv (by rw [pd]; rfl))
  | true => exact iteT (q _ _ H2 e2 (.bl _) rfl)
theorem evd_notV {a : Bool} (ha : EvD K M ta σ H (.bool a)) : EvD K M (tNotV ta) σ H (.bool (!a)) := fun H1 e Q q => ha H1 e _ fun v d H2 e2 dv pd => by
  subst pd
  cases dv
  exact ⟨a, rfl, q _ _ H2 e2 (.bl _) rfl⟩
theorem evp_if {t : TT} {b : Bool} (h : EvT t σ H b) (h1 : b = true → EvP K M ta σ H P) (h2 : b = false → EvP K M tb σ H P) : EvP K M (tIf t ta tb) σ H P := fun H1 e Q q => h H1 e _ fun H2 e2 => by
  cases b with
  | true => exact iteT (h1 rfl H2 (e.trans e2) Q fun v d H3 e3 => q v d H3 (e2.trans e3))
  | false => exact iteF (h2 rfl H2 (e.trans e2) Q fun v d H3 e3 => q v d H3 (e2.trans e3))
/-- a chain of two comparisons of ints -/
theorem evd_chainI {g g' : Int → Int → Bool} {i j k : Int} (ha : EvD K M ta σ H (.int i)) (hb : EvD K M tb σ H (.int j)) (hc : EvD K M tc σ H (.int k)) : EvD K M (tChain (rI0 fun i j => .bl (g i j)) (rI0 fun i j => .bl (g' i j)) ta tb tc) σ H (.bool (g i j && g' j k)) := fun H1 e Q q =>
  ha H1 e _ fun x a H2 e2 dx px => hb H2 (e.trans e2) _ fun y b H3 e3 dy py => by
    subst px py
    cases dx
    cases dy
    refine ⟨i, j, rfl, rfl, g i j, rfl, ?_⟩
    cases hg : g i j with
    | false => exact iteF (q _ _ H3 (e2.trans e3) (.bl _) (by rw [hg]; rfl))
    | true => exact iteT (hc H3 ((e.trans e2).trans e3) _ fun z c H4 e4 dz pz => by
        subst pz
        cases dz
        exact ⟨j, k, rfl, rfl, q _ _ H4 ((e2.trans e3).trans e4) (.bl _) (by rw [hg]; rfl)⟩)
end
end TH
set_option maxRecDepth 100000
set_option maxHeartbeats 4000000
namespace TH
open PySem L2 Evl
section
variable {K : PySem.W.Frag} {M : Addr → Prop} {H H1 H' : Hp} {σ : L2.St} {ta tb te tl : TE} {tt : TT} {g : TG} {vs : List Nat}
def more (M : Addr → Prop) (D : Addr) : Addr → Prop := fun a => M a ∨ a = D
theorem Dt.more {v : V} {d : PyData} {D : Addr} (h : Dt K M H v d) (hD : H D = none) : Dt K (TH.more M D) H v d :=
  Dt.move (fun a xs h n => ⟨h, fun z => z.elim n fun e => by rw [e, hD] at h; cases h⟩) (fun a xs h => h) d v h
theorem Dts.more {v : List V} {d : List PyData} {D : Addr} (h : Dts K M H v d) (hD : H D = none) : Dts K (TH.more M D) H v d :=
  Dts.move (fun a xs h n => ⟨h, fun z => z.elim n fun e => by rw [e, hD] at h; cases h⟩) (fun a xs h => h) d v h
theorem more_sub {D : Addr} : ∀ a, M a → TH.more M D a := fun _ h => .inl h
theorem paired_map {α : Type} {F : α → PyData} : ∀ {l : List α} {es : List PyData}, Paired (fun a e => e = F a) l es → es = l.map F
  | _, _, .nil => rfl
  | _, _, .cons h t => by rw [h, paired_map t]; rfl
theorem paired_len {α : Type} {P : α → PyData → Prop} : ∀ {l : List α} {es : List PyData}, Paired P l es → es.length = l.length
  | _, _, .nil => rfl
  | _, _, .cons h t => by rw [List.length_cons, List.length_cons, paired_len t]
theorem paired_mem {α : Type} {P : α → PyData → Prop} : ∀ {l : List α} {es : List PyData}, Paired P l es → ∀ e ∈ es, ∃ a ∈ l, P a e
  | _, _, .nil, e, h => by cases h
  | _, _, .cons h t, e, he => by
    rcases List.mem_cons.mp he with rfl | he
    · exact ⟨_, List.mem_cons_self, h⟩
    · obtain ⟨a, ha, p⟩ := paired_mem t e he
      exact ⟨a, List.mem_cons_of_mem _ ha, p⟩
/-- what a turn of a comprehension gives -/
def Turned (K : PySem.W.Frag) (M : Addr → Prop) (σ : L2.St) (vs : List Nat) (tt : TT) (te : TE) (b : Bool) (P : PyData → Prop) (σ2 : L2.St) (H2 : Hp) : Prop :=
  wipe σ2 vs = wipe σ vs ∧ EvT tt σ2 H2 b ∧ (b = true → EvP K M te σ2 H2 P)
theorem lc_data {α : Type} (L : List α) {J : It} {G : Hp → Prop} {Y : Nat → Hp → V → Hp → Prop} (w : Walk J L.length G Y) {D : Addr} {Qd : Hp → Prop} (ok : Ok M H1) (hD : H1 D = none) (hn : L.length < sizeLine)
    (f : α → Bool) (P : α → PyData → Prop) (hG : ∀ H, Ex H1 H → G H)
    (hs : ∀ (M' : Addr → Prop) (i : Nat) (a : α) (x : V) (H H' : Hp), (∀ v d, Dt K M H1 v d → Dt K M' H1 v d) → Ok M' H → L[i]? = some a → Ex H1 H → Y i H x H' →
      ∀ Qg : L2.St → Hp → Prop, (∀ σ2 H2, Ex H H2 → Turned K M' σ vs tt te (f a) (P a) σ2 H2 → Qg σ2 H2) → g x (wipe σ vs) H' Qg)
    (q : ∀ H es, Ex H1 H → Dt K M H (.ref D) (.list es) → Paired P (L.filter f) es → Qd H) :
    ∃ W : Nat → Nat → Hp → Prop, (∃ m, W 0 m (upd H1 D (.lst []))) ∧ ∀ i m H, W i m H →
      (J.stop i H ∧ Qd H) ∨ (J.go i H ∧ ∃ Nx : Hp → Prop, (∀ H', Nx H' → ∃ m', m' < m ∧ W (i + 1) m' H') ∧ ∀ x H', J.yld i H x H' → g x (wipe σ vs) H' fun σ2 H2 => wipe σ2 vs = wipe σ vs ∧ tt σ2 H2 fun b H3 =>
        if b = true then te σ2 H3 fun y H4 => ∃ acc, H4 D = some (.lst acc) ∧ acc.length < sizeLine ∧ Nx (upd H4 D (.lst (acc ++ [y]))) else Nx H3) := by
  have ok' : ∀ {H}, Ex H1 H → H D ≠ none → Ok (TH.more M D) H := fun {H} e n l m => by
    rcases m with m | rfl
    · exact (ok.ex e) l m
    · exact n
  refine lc_it w (fun i H => Ex H1 H ∧ ∃ acc es, H D = some (.lst acc) ∧ Dts K (TH.more M D) H acc es ∧ Paired P ((L.take i).filter f) es)
    ⟨Ex.new hD, [], [], upd_same, .nil, .nil⟩ (fun i H _ p => hG H p.1) (fun i x H H' hi p y => ?_) (fun H p => ?_)
  · obtain ⟨e, acc, es, hacc, dacc, pr⟩ := p
    obtain ⟨a, ha⟩ : ∃ a, L[i]? = some a := ⟨L[i], List.getElem?_eq_getElem hi⟩
    have tk : L.take (i + 1) = L.take i ++ [a] := by rw [List.take_add_one, ha]; rfl
    refine hs (TH.more M D) i a x H H' (fun v d h => h.more hD) (ok' e (by rw [hacc]; simp)) ha e y _ fun σ2 H2 e2 T => ?_
    obtain ⟨hw, ht, he⟩ := T
    refine ⟨hw, ht H2 (Ex.refl _) _ fun H3 e3 => ?_⟩
    have e03 := e2.trans e3
    have lacc : acc.length ≤ i := by
      rw [dacc.length, paired_len pr]
      refine Nat.le_trans (List.length_filter_le _ _) ?_
      rw [List.length_take]
      exact Nat.min_le_left _ _
    cases hf : f a with
    | true =>
      refine iteT (he hf H3 e3 _ fun y d H4 e4 dy py => ?_)
      refine ⟨acc, e4 _ _ (e03 _ _ hacc), Nat.lt_of_le_of_lt lacc (Nat.lt_trans hi hn), ?_, acc ++ [y], es ++ [d], upd_same, ?_, ?_⟩
      · exact Ex.mut ((e.trans e03).trans e4) hD
      · exact (((dacc.ex (e03.trans e4))).append (.one dy)).upd (e4 _ _ (e03 _ _ hacc)) (.inr rfl)
      · rw [tk, List.filter_append, List.filter_cons, hf, if_pos rfl]
        exact Paired.snoc pr py
    | false =>
      refine iteF ⟨e.trans e03, acc, es, e03 _ _ hacc, dacc.ex e03, ?_⟩
      rw [tk, List.filter_append, List.filter_cons, hf]
      simpa using pr
  · obtain ⟨e, acc, es, hacc, dacc, pr⟩ := p
    rw [List.take_length] at pr
    exact q H es e (.lst hacc (ok.new hD) (dacc.weak more_sub)) pr
/-- over a list -/
theorem evp_lcL {ds : List PyData} (f : PyData → Bool) (P : PyData → PyData → Prop) (ok : Ok M H) (hl : EvD K M tl σ H (.list ds)) (hz : ds.length < sizeLine)
    (hs : ∀ (M' : Addr → Prop) (d : PyData) (x : V) (H' : Hp), (∀ v d, Dt K M H v d → Dt K M' H' v d) → Ok M' H' → d ∈ ds → Ex H H' → Dt K M' H' x d →
      ∀ Qg : L2.St → Hp → Prop, (∀ σ2 H2, Ex H' H2 → Turned K M' σ vs tt te (f d) (P d) σ2 H2 → Qg σ2 H2) → g x (wipe σ vs) H' Qg) :
    EvP K M (tLc (iList K tl) g tt te vs) σ H (fun d => ∃ es, d = .list es ∧ Paired P (ds.filter f) es) := fun H0 e Q q =>
  hl H0 e _ fun v d H1 e1 dv pd => by
    subst pd
    cases dv with
    | lst h1 h2 h3 =>
      rename_i a xs
      refine ⟨a, rfl, ⟨xs, sq_of h1⟩, fun D hD => ?_⟩
      have hw : Walk (Itl K a) ds.length (fun H => SqL K H a xs) (YAt xs) := by
        rw [← h3.length]
        exact walk_list
      refine lc_data (σ := σ) (vs := vs) ds hw ((ok.ex (e.trans e1))) hD hz f P (fun H e => sq_of (e _ _ h1)) (fun M' i d x H2 H' hm ok' hd e2 y Qg qg => ?_) (fun H2 es e2 dd pr => q _ _ H2 (e1.trans e2) dd ⟨es, rfl, pr⟩)
      obtain ⟨rfl, hx⟩ := y
      obtain ⟨d', hd', dx⟩ := h3.get hx
      rw [hd] at hd'
      cases hd'
      exact hs M' d x _ (fun v d h => (hm v d (h.ex (e.trans e1))).ex e2) ok' (List.mem_of_getElem? hd) ((e.trans e1).trans e2) ((hm _ _ dx).ex e2) Qg qg
theorem evd_lcL {ds : List PyData} (f : PyData → Bool) (F : PyData → PyData) (ok : Ok M H) (hl : EvD K M tl σ H (.list ds)) (hz : ds.length < sizeLine)
    (hs : ∀ (M' : Addr → Prop) (d : PyData) (x : V) (H' : Hp), (∀ v d, Dt K M H v d → Dt K M' H' v d) → Ok M' H' → d ∈ ds → Ex H H' → Dt K M' H' x d →
      ∀ Qg : L2.St → Hp → Prop, (∀ σ2 H2, Ex H' H2 → Turned K M' σ vs tt te (f d) (· = F d) σ2 H2 → Qg σ2 H2) → g x (wipe σ vs) H' Qg) :
    EvD K M (tLc (iList K tl) g tt te vs) σ H (.list ((ds.filter f).map F)) :=
  (evp_lcL f (fun d e => e = F d) ok hl hz hs).mono fun d ⟨es, e, pr⟩ => by rw [e, paired_map pr]
/-- over a text -/
theorem evp_lcS {z : Str} (f : Nat → Bool) (P : Nat → PyData → Prop) (ok : Ok M H) (hl : EvD K M tl σ H (.str z)) (hz : z.length < sizeLine)
    (hs : ∀ (M' : Addr → Prop) (c : Nat) (H' : Hp), (∀ v d, Dt K M H v d → Dt K M' H' v d) → Ok M' H' → c ∈ z.cps.toList → Ex H H' →
      ∀ Qg : L2.St → Hp → Prop, (∀ σ2 H2, Ex H' H2 → Turned K M' σ vs tt te (f c) (P c) σ2 H2 → Qg σ2 H2) → g (.str ⟨#[c]⟩) (wipe σ vs) H' Qg) :
    EvP K M (tLc (iStr tl) g tt te vs) σ H (fun d => ∃ es, d = .list es ∧ Paired P (z.cps.toList.filter f) es) := fun H0 e Q q =>
  hl H0 e _ fun v d H1 e1 dv pd => by
    subst pd
    cases dv
    refine ⟨z, rfl, fun D hD => ?_⟩
    have hw : Walk (Its z) z.cps.toList.length (fun _ => True) (fun i H v H' => H' = H ∧ ∃ c, z.cps[i]? = some c ∧ v = .str ⟨#[c]⟩) := by
      rw [Array.length_toList]
      exact walk_str
    refine lc_data (σ := σ) (vs := vs) z.cps.toList hw ((ok.ex (e.trans e1))) hD (by rw [Array.length_toList]; exact hz) f P (fun H e => trivial) (fun M' i d x H2 H' hm ok' hd e2 y Qg qg => ?_) (fun H2 es e2 dd pr => q _ _ H2 (e1.trans e2) dd ⟨es, rfl, pr⟩)
    obtain ⟨rfl, c, hc, rfl⟩ := y
    have ec : c = d := by
      rw [Array.getElem?_toList, hc] at hd
      exact Option.some.inj hd
    subst ec
    exact hs M' c _ (fun v d h => (hm v d (h.ex (e.trans e1))).ex e2) ok' (Array.mem_toList_iff.mpr (Array.mem_of_getElem? hc)) ((e.trans e1).trans e2) Qg qg
theorem evd_lcS {z : Str} (f : Nat → Bool) (F : Nat → PyData) (ok : Ok M H) (hl : EvD K M tl σ H (.str z)) (hz : z.length < sizeLine)
    (hs : ∀ (M' : Addr → Prop) (c : Nat) (H' : Hp), (∀ v d, Dt K M H v d → Dt K M' H' v d) → Ok M' H' → c ∈ z.cps.toList → Ex H H' →
      ∀ Qg : L2.St → Hp → Prop, (∀ σ2 H2, Ex H' H2 → Turned K M' σ vs tt te (f c) (· = F c) σ2 H2 → Qg σ2 H2) → g (.str ⟨#[c]⟩) (wipe σ vs) H' Qg) :
    EvD K M (tLc (iStr tl) g tt te vs) σ H (.list ((z.cps.toList.filter f).map F)) :=
  (evp_lcS f (fun d e => e = F d) ok hl hz hs).mono fun d ⟨es, e, pr⟩ => by rw [e, paired_map pr]
/-- over range(n) -/
theorem evp_lcR {ta : TA} {PN : Int → Prop} (f : Nat → Bool) (P : Nat → PyData → Prop) (ok : Ok M H) (hl : EvPA K M ta σ H (fun l => ∃ n : Int, l = [.int n] ∧ PN n)) (hz : ∀ n, PN n → 0 ≤ n ∧ n ≤ 100000)
    (hs : ∀ (M' : Addr → Prop) (n : Int) (i : Nat) (H' : Hp), (∀ v d, Dt K M H v d → Dt K M' H' v d) → Ok M' H' → PN n → (i : Int) < n → Ex H H' →
      ∀ Qg : L2.St → Hp → Prop, (∀ σ2 H2, Ex H' H2 → Turned K M' σ vs tt te (f i) (P i) σ2 H2 → Qg σ2 H2) → g (.int (i : Int)) (wipe σ vs) H' Qg) :
    EvP K M (tLc (iRng1 ta) g tt te vs) σ H (fun d => ∃ (n : Int) (es : List PyData), PN n ∧ d = .list es ∧ Paired P ((List.range n.toNat).filter f) es) := fun H0 e Q q =>
  hl H0 e _ fun us ds H1 e1 dv pd => by
    obtain ⟨n, rfl, pn⟩ := pd
    have hz := hz n pn
    cases dv with
    | cons h1 h2 =>
      cases h1
      cases h2
      refine ⟨n, rfl, by omega, by omega, fun D hD => ?_⟩
      have hw : Walk (Itr 0 n.toNat) (List.range n.toNat).length (fun _ => True) (YFn fun i => .int (0 + i)) := by
        rw [List.length_range]
        exact walk_range
      refine lc_data (σ := σ) (vs := vs) (List.range n.toNat) hw ((ok.ex (e.trans e1))) hD (by rw [List.length_range]; exact Nat.lt_of_le_of_lt (show n.toNat ≤ 100000 by omega) (by decide)) f P (fun H e => trivial) (fun M' i d x H2 H' hm ok' hd e2 y Qg qg => ?_) (fun H2 es e2 dd pr => q _ _ H2 (e1.trans e2) dd ⟨n, es, pn, rfl, pr⟩)
      obtain ⟨h1, h2⟩ := List.getElem?_eq_some_iff.mp hd
      rw [List.getElem_range] at h2
      rw [List.length_range] at h1
      subst h2
      obtain ⟨rfl, rfl⟩ := y
      show g (V.int (0 + (i : Int))) (wipe σ vs) _ Qg
      rw [Int.zero_add]
      exact hs M' n i _ (fun v d h => (hm v d (h.ex (e.trans e1))).ex e2) ok' pn (by omega) ((e.trans e1).trans e2) Qg qg
end
/-! ### rules by the written part's own letter, for a comprehension's block -/
section
variable {X : Cx} {K : PySem.W.Frag}
theorem ix_tupK (h : X.K = K) : IxR X (rIxT K) := by
  subst h
  exact ix_tup
theorem ix_listK (h : X.K = K) : IxR X (rIxL K) := by
  subst h
  exact ix_list
theorem sl_listK (h : X.K = K) : SlR X (rSlL K) := by
  subst h
  exact sl_list
theorem pi_listK {tg l : Expr} {tl : TE} (h : X.K = K) (hl : PE X l tl) : PI X tg l (iList K tl) := by
  subst h
  exact pi_list hl
theorem op_notIn_seqK (h : X.K = K) : OpR X (compareOp .NotIn) (rIn K true) := by
  subst h
  exact op_notIn_seq
theorem op_in_seqK (h : X.K = K) : OpR X (compareOp .In) (rIn K false) := by
  subst h
  exact op_in_seq
end
/-! ### statements -/
section
variable {K : PySem.W.Frag} {M : Addr → Prop} {H H' : Hp} {σ : L2.St} {te : TE} {P : PyData → Prop} {D : Ends} {tz : TS}
theorem s_retP (h : EvP K M te σ H P) (k : ∀ v d H1, Ex H H1 → Dt K M H1 v d → P d → D.rt v H1) : tRet te D σ H := h.use k
theorem q_asgP {i : Nat} (h : EvP K M te σ H P) (k : ∀ v d H1, Ex H H1 → Dt K M H1 v d → P d → tz D (σ.set i (some v)) H1) : tSeq (tAsg te (gName i)) tz D σ H := h.use k
theorem s_asgP {i : Nat} (h : EvP K M te σ H P) (k : ∀ v d H1, Ex H H1 → Dt K M H1 v d → P d → D.nx (σ.set i (some v)) H1) : tAsg te (gName i) D σ H := h.use k
theorem s_dropP (h : EvP K M te σ H P) (k : ∀ v d H1, Ex H H1 → Dt K M H1 v d → P d → D.nx σ H1) : tDrop te D σ H := h.use k
theorem q_dropP (h : EvP K M te σ H P) (k : ∀ v d H1, Ex H H1 → Dt K M H1 v d → P d → tz D σ H1) : tSeq (tDrop te) tz D σ H := h.use k
end
end TH
set_option maxRecDepth 100000
set_option maxHeartbeats 4000000
namespace TH
open PySem PySem.Spec PyProof.Rows L2 Evl PpSet
/-! ### {elt for target in iter}, the members ints or texts -/
section
variable {X : Cx}
/-- one turn of the block: the member goes into the set at D -/
def SetTurn (P : Program) (w : World) (D : Addr) (σ0 : L2.St) (vs : List Nat) (tt : TT) (te : TE) (Nx : Hp → Prop) (σ2 : L2.St) (H2 : Hp) : Prop :=
  wipe σ2 vs = wipe σ0 vs ∧ tt σ2 H2 fun b H3 =>
    if b = true then te σ2 H3 fun y H4 =>
      ∃ (k : Key) (S : Key → Bool) (n : Nat), y = kV k ∧ H4 D = some (SetK P w D S n) ∧ n + 1 < scanBound ∧
        Nx (upd H4 D (SetK P w D (fun j => S j || decide (j = k)) (if S k = true then n else n + 1)))
    else Nx H3
def tScK (P : Program) (w : World) (wi : TI) (g : TG) (tt : TT) (te : TE) (vs : List Nat) : TE := fun σ H Q =>
  wi σ H fun J H1 => ∀ D, H1 D = none → ∃ W : Nat → Nat → Hp → Prop,
    (∃ m, W 0 m (upd H1 D (SetK P w D (fun _ => false) 0))) ∧
    ∀ i m H, W i m H → (J.stop i H ∧ Q (.ref D) H) ∨
      (J.go i H ∧ ∃ Nx : Hp → Prop, (∀ H', Nx H' → ∃ m', m' < m ∧ W (i + 1) m' H') ∧
        ∀ x H', J.yld i H x H' → g x (wipe σ vs) H' (SetTurn P w D σ vs tt te Nx))
/-- the member is added, within any context -/
theorem addK_ok {Y : Cx} {pins : List (Addr × Obj)} {σ : L2.St} {G : Hp} {s : Shared} {D : Addr} {S : Key → Bool} {n : Nat} {k : Key} {u : Value} {Q E : Value → Shared → Prop}
    (I : Inv Y pins σ G s) (hD : G D = some (SetK Y.prog Y.w D S n)) (ru : RelV (kV k) u) (room : n + 1 < scanBound)
    (h : ∀ v s', Inv Y pins σ (upd G D (SetK Y.prog Y.w D (fun j => S j || decide (j = k)) (if S k = true then n else n + 1))) s' → Q v s') :
    wpAny (model Y.prog Y.w) Y.A (call (.builtin "set.add") [.ref D, u]) Q E s := by
  refine call_set_add (kV_is ru) (key_scan ru) (setK_get I hD) room fun hp' same born => ?_
  have there : ∃ o, hp'.get? D = some o := by
    obtain ⟨o, _, _, _, ho, _⟩ := id born
    exact ⟨o, ho⟩
  exact h _ _ (I.write (e := D) (t' := s.toks + 1) (by rw [hD]; trivial) (.inl rfl) (fun b o hb ho => (same.2 b hb).trans ho) there (setK_new born))
theorem setK_start {G : Hp} {s : Shared} {pins : List (Addr × Obj)} {σ : L2.St} (I : Inv X pins σ G s) :
    Inv X pins σ (upd G s.heap.objs.size (SetK X.prog X.w s.heap.objs.size (fun _ => false) 0))
      { s with heap := s.heap.push { cls := .type "set", dict := none, data := .set #[] 0 (.fresh 0 0 (!X.w.params.followText "set-order")) } } := by
  have born : (s.heap.push { cls := .type "set", dict := none, data := .set #[] 0 (.fresh 0 0 (!X.w.params.followText "set-order")) }).SetOf (mixKind X.prog X.w) s.heap.objs.size (fun _ => false) 0 := by
    refine ⟨_, #[], 0, _, Heap.get?_push_size _ rfl, ⟨rfl, rfl, rfl⟩, rfl, ?_, ?_, by decide, by rfl, rfl⟩
    · intro e he
      simp at he
    · intro k
      simp
  exact I.laid (t' := s.toks) (fun b u q => Heap.get?_push_of_some _ q) (Nat.le_refl _) (setK_new born)
theorem pe_scK {elt tg iter : Expr} {ifs : List Expr} {scope : Scope} {own : List (Str × Nat)} {pos : Pos} {wi : TI} {g : TG} {tt : TT} {te : TE}
    (calm : X.calm = true) (nodup : X.N.Nodup) (src : PI X tg iter wi) (blk : BlkOk X.N X.env.scope scope own)
    (ptg : ∀ (s : Shared) (G : Hp) (C : Addr) (cl : List (Str × Addr)) (fp : List Addr), PG (X.blk s G scope (compEnvC scope cl C X.env) fp) tg g)
    (pif : ∀ (s : Shared) (G : Hp) (C : Addr) (cl : List (Str × Addr)) (fp : List Addr), PTs (X.blk s G scope (compEnvC scope cl C X.env) fp) ifs tt)
    (pel : ∀ (s : Shared) (G : Hp) (C : Addr) (cl : List (Str × Addr)) (fp : List Addr), PE (X.blk s G scope (compEnvC scope cl C X.env) fp) elt te)
    (fold : ∀ x, foldedSetIterable iter X.env x = pure x := by intro _; rfl) :
    PE X (.SetComp elt [⟨tg, iter, ifs, 0⟩] scope pos) (tScK X.prog X.w wi g tt te (own.map (·.2))) := by
  refine ⟨fun pins s σ G Q I wish => ?_⟩
  rw [eval_SetComp]
  have caught : ∀ y ∈ scope.names, y.2 = .free → ∃ c, X.env.cells.lookup y.1 = some c := by
    intro y hy hf
    cases blk.free y hy hf with
    | inl z => exact I.ok.has _ (.inl z)
    | inr z => exact I.ok.has _ (.inr z)
  refine wpAny_comprehension_free rfl fold (closure_ok caught) blk.kind (fun y hy z => by rw [blk.uniq y hy, z]) ?_
  refine thn (src.run pins s σ G _ I wish) fun seqv sA hA => thn hA fun itv sB hB => ?_
  obtain ⟨it, fp, turnAt, J, GB, eit, IB, TT, stB, fpB, hq⟩ := hB
  subst eit
  refine newSet_ok (newEnv_comp ?_)
  have fresh : GB sB.heap.objs.size = none := IB.hok.fresh (Nat.le_refl _)
  have IC := setK_start IB
  revert fresh IC
  generalize eD : sB.heap.objs.size = D
  intro fresh IC
  obtain ⟨W, ⟨m0, w0⟩, steps⟩ := hq D fresh
  revert IC
  generalize eC : ({ sB with heap := sB.heap.push { cls := .type "set", dict := none, data := .set #[] 0 (.fresh 0 0 (!X.w.params.followText "set-order")) } } : Shared) = sC
  generalize eG : upd GB D (SetK X.prog X.w D (fun _ => false) 0) = GC at w0
  intro IC
  have grown : ∀ b o, sB.heap.get? b = some o → sC.heap.get? b = some o := by
    intro b o q
    rw [← eC]
    exact Heap.get?_push_of_some _ q
  have small : ∀ b ∈ fp, b < sB.heap.objs.size := by
    intro b hb
    obtain ⟨o, q, _⟩ := TT.obj _ _ stB b hb
    exact Heap.lt_size q
  have fpC : ∀ b ∈ fp, FpOk X pins GC b ∧ b < sC.heap.objs.size := by
    intro b hb
    have lt := small b hb
    constructor
    · refine ⟨?_, (fpB b hb).2⟩
      rw [← eG, upd_ne (by rw [← eD]; exact Nat.ne_of_lt lt)]
      exact (fpB b hb).1
    · rw [← eC]
      show b < (sB.heap.push _).objs.size
      rw [Heap.size_push]
      exact Nat.lt_succ_of_lt lt
  have stC : turnAt 0 sC.heap := TT.keep _ _ _ stB fun b _ o q => grown b o q
  have ID := block_start IC blk nodup fpC
  have tgD := ptg sC GC sC.heap.objs.size (cellsFrom (sC.heap.objs.size + 1) scope.names (cloFrom X.env.cells scope.names [])) fp
  have ifD := pif sC GC sC.heap.objs.size (cellsFrom (sC.heap.objs.size + 1) scope.names (cloFrom X.env.cells scope.names [])) fp
  have elD := pel sC GC sC.heap.objs.size (cellsFrom (sC.heap.objs.size + 1) scope.names (cloFrom X.env.cells scope.names [])) fp
  have post : ∀ (s' : Shared) (m : Str → Option Value) (G' : Hp), Inv X pins σ G' s' → Q (.ref D) G' → s'.heap.Ns sC.heap.objs.size m → FpOk X pins G' sC.heap.objs.size →
      compPost (model X.prog X.w) X.A X.xe none (EP X pins σ Q) (.ref D) sC.heap.objs.size (.ok .next) s' := by
    intro s' m G' I' q hn hf
    refine ⟨m, hn, fun h'' same => ?_⟩
    obtain ⟨f0, f1, f2, f3, f4, f5⟩ := hf
    exact ⟨.ref D, G', I'.turned (t' := s'.toks) (fun b o hb z => (same.2 b hb).trans z) f0 f1 f3 f4 f5, rfl, q⟩
  show codeAny _ _ (.compStart (.SetComp elt [⟨tg, iter, ifs, 0⟩] scope pos) 0 (.ref it) (.ref D) (compEnvC scope (cellsFrom (sC.heap.objs.size + 1) scope.names (cloFrom X.env.cells scope.names [])) sC.heap.objs.size X.env))
    (compPost (model X.prog X.w) X.A X.xe none (EP X pins σ Q) (.ref D) sC.heap.objs.size) { sC with heap := pushCells (sC.heap.push { cls := .type "dict", data := .dict #[] }) scope.names }
  have none_fp : ∀ b ∈ fp, GC b = none := fun b hb => (fpC b hb).1.1
  revert ID tgD ifD elD
  generalize eE : compEnvC scope (cellsFrom (sC.heap.objs.size + 1) scope.names (cloFrom X.env.cells scope.names [])) sC.heap.objs.size X.env = cenv
  have locals : cenv.locals = sC.heap.objs.size := by
    rw [← eE]
    rfl
  generalize eS : ({ sC with heap := pushCells (sC.heap.push { cls := .type "dict", data := .dict #[] }) scope.names } : Shared) = sD
  intro ID tgD ifD elD
  have stD : turnAt 0 sD.heap := by
    refine TT.keep _ _ _ stC fun b _ o q => ?_
    rw [← eS]
    exact pushCells_keeps _ _ _ _ (Heap.get?_push_of_some _ q)
  have steady : ∀ {σ' : L2.St} {G' : Hp} {s' : Shared}, Inv (X.blk sC GC scope cenv fp) [] σ' G' s' → (∀ b ∈ fp, G' b = none) → ∀ b ∈ fp, FpOk (X.blk sC GC scope cenv fp) [] G' b := by
    intro σ' G' s' I' hn b hb
    refine ⟨hn b hb, (I'.ok.exf b hb).1, I'.ok.exfs b hb, .inl hb, fun x c => (I'.ok.exf b hb).2 x c, fun p hp => ?_⟩
    exact absurd (show p ∈ ([] : List (Addr × Obj)) ++ [] from hp) (by simp)
  have loop : codeAny (model X.prog X.w) X.A (.compLoop (.SetComp elt [⟨tg, iter, ifs, 0⟩] scope pos) 0 (.ref it) (.ref D) cenv)
      (compPost (model X.prog X.w) X.A X.xe none (EP X pins σ Q) (.ref D) sC.heap.objs.size) sD := by
    refine compLoopS_any (fun n s' => ∃ i G', Inv (X.blk sC GC scope cenv fp) [] (wipe σ (own.map (·.2))) G' s' ∧ turnAt i s'.heap ∧ (∀ b ∈ fp, G' b = none) ∧ W i n G') ?_ m0 ⟨0, GC, ID, stD, none_fp, w0⟩
    rintro n s5 ⟨i, G5, I5, st5, n5, w5⟩
    cases steps i n G5 w5 with
    | inl done =>
      obtain ⟨stop, hq⟩ := done
      refine thnF (TT.done (X.blk sC GC scope cenv fp) rfl rfl rfl calm i [] s5 _ G5 (fun _ _ => False) I5 (steady I5 n5) st5 stop) fun r s6 ⟨hr, I6⟩ => ?_
      subst hr
      have I7 : Inv X pins σ G5 s6 := IC.call' (ch := fp) I6.os I6.base I6.hok I6.bare fun b hb =>
        ⟨(fpC b hb).1.2.2.2.1, (fpC b hb).1.2.1, (fpC b hb).1.2.2.2.2.1, (fpC b hb).1.2.2.2.2.2⟩
      have gone : G5 sC.heap.objs.size = none := by
        rw [← locals]
        exact I6.free
      obtain ⟨m, hn, _⟩ := I6.loc
      refine post s6 m G5 I7 hq ?_ (IC.fpOk (Nat.le_refl _) gone)
      rw [← locals]
      exact hn
    | inr more =>
      obtain ⟨go, Nx, hNx, step⟩ := more
      refine thnF (TT.item (X.blk sC GC scope cenv fp) rfl rfl rfl calm i [] s5 _ G5 (fun _ _ => False) I5 (steady I5 n5) st5 go) fun r s6 ⟨u, hr, h6⟩ => ?_
      subst hr
      refine thnF h6 fun _ s7 ⟨x, G7, I7, r7, y7, st7, n7⟩ => ?_
      refine thnF (tgD.run _ s7 _ G7 x u _ (I7.pinned (steady I7 n7) (TT.obj _ _ st7)) r7 (step x G7 y7)) fun _ s8 ⟨σ8, G8, I8, hw, q8⟩ => ?_
      refine thnF (ifD.run _ s8 σ8 G8 _ I8 q8) fun b s9 ⟨G9, I9, q9⟩ => ?_
      have back : ∀ {s' : Shared} {G' : Hp}, Inv (X.blk sC GC scope cenv fp) ([] ++ pinsAt fp s7.heap) σ8 G' s' → Nx G' →
          ∃ m, m < n ∧ ∃ i G', Inv (X.blk sC GC scope cenv fp) [] (wipe σ (own.map (·.2))) G' s' ∧ turnAt i s'.heap ∧ (∀ b ∈ fp, G' b = none) ∧ W i m G' := by
        intro s' G' I' nx
        obtain ⟨m', hm, w'⟩ := hNx G' nx
        have pinned : ∀ b ∈ fp, ∀ o, s7.heap.get? b = some o → s'.heap.get? b = some o ∧ G' b = none := by
          intro b hb o q
          have z := I'.pin (b, o) (List.mem_append_right _ (List.mem_append_right _ (mem_pinsAt hb q)))
          exact ⟨z.1, z.2.1⟩
        have len : (wipe σ (own.map (·.2))).length = σ8.length := by rw [← hw, wipe_length]
        refine ⟨m', hm, i + 1, G', (I'.unpinned (pins := [])).weak len ?_, TT.keep _ _ _ st7 fun b hb o q => (pinned b hb o q).1, fun b hb => ?_, w'⟩
        · intro j v q
          rw [← hw] at q
          exact (wipe_some q).1
        · obtain ⟨o, q, _⟩ := TT.obj _ _ st7 b hb
          exact (pinned b hb o q).2
      cases b with
      | false => exact back I9 q9
      | true =>
        show wpAny _ _ _ _ _ _
        refine thnF (elD.run _ s9 σ8 G9 _ I9 q9) fun z s10 ⟨yv, G10, I10, r10, k, S0, n0, ey, hD10, room, nx⟩ => ?_
        subst ey
        exact addK_ok (Y := X.blk sC GC scope cenv fp) I10 hD10 r10 room fun v s11 I11 => back I11 nx
  exact codeAny_compStart_set loop (TT.self X.A 0 _ _ _ stD loop)
end
end TH
set_option maxRecDepth 100000
set_option maxHeartbeats 4000000
namespace TH
open PySem L2 Evl
def top (i : Nat) : Stmt := PySem.Challenge.pw_treehands_k13_what_shows_them_the_same.main.body.getD i (.Pass ⟨0, 0, 0, 0⟩)
abbrev sBox : Stmt := top 39
abbrev sMore : Stmt := top 40
abbrev sTake : Stmt := top 41

structure Glob (mg : Str → Option Value) : Prop where
  range : mg "range" = none
  len : mg "len" = none
  abs : mg "abs" = none
  divmod : mg "divmod" = none

/-- _law_box: a new box -/
def spBox (K : PySem.W.Frag) : Sp := fun vs H Q _ => ∃ (a : Addr) (ns : List Int) (k : Int), vs = [.ref a, .int k] ∧ SqL K H a (ns.map V.int) ∧ 0 ≤ k ∧ k ≤ 100 ∧
  ∀ b H', H b = none → Ex H H' → H' b = some (Box b) → Q (.ref b) H'
/-- _law_more: a number that is not negative -/
def spMore : Sp := fun vs H Q _ => ∃ b : Addr, vs = [.ref b] ∧ H b = some (Box b) ∧ ∀ n : Int, 0 ≤ n → n.natAbs < 2 ^ 200 → Q (.int n) H
/-- _law_take: a digit below the count -/
def spTake : Sp := fun vs H Q _ => ∃ (b : Addr) (n : Int), vs = [.ref b, .int n] ∧ H b = some (Box b) ∧ 0 < n ∧ n.natAbs < 2 ^ 200 ∧
  ∀ d H', 0 ≤ d → d < n → Ex H H' → Q (.int d) H'

section
variable {P : Program} {w : World} {K : PySem.W.Frag} {mg : Str → Option Value} {base : Heap}
theorem scBox : FnScope ["_law_script", "_law_k", "_law_here", "_law_number", "_law_j", "_law_piece"] ["_law_script", "_law_k"] (defScope sBox) :=
  ⟨rfl, rfl, rfl, by decide +kernel, rfl, by decide +kernel, by decide +kernel⟩
theorem ok_box {f : Addr} {fd : FuncData} (F : Fun K "_law_box" "_law_box" sBox f fd) (G : Glob mg) :
    FnOk P w K mg base CX0 1 f fd ["_law_script", "_law_k"] (spBox K) := by
  refine F.ok scBox (fun vs H Q E h => ?_) (fun cdv A outer s H vs Q E hr h => ?_)
  · obtain ⟨a, ns, k, rfl, _⟩ := h
    rfl
  · obtain ⟨a, ns, k, rfl, hS, hk0, hk1, q⟩ := h
    refine ⟨_, pss_cons (ps_set (i := 2) scBox.nd rfl (.inl rfl) (pe_op op_add (pe_op op_mul pe_int (pv 1)) pe_int))
      (pss_cut (ps_if (pt_cmpR op_lt (pv 1) (pe_callB call_len_seq (by rfl) G.len PySem.boot_len (pa_cons (pv 0) pa_nil)) (nomark _))
        (pss_one (ps_set (i := 2) scBox.nd rfl (.inl rfl) (pe_ix ix_list (pv 0) (pv 1) (fun _ _ => rfl)))) pss_nil)
      (pss_cons (ps_if (pt_cmpR op_eq (pe_op op_mod (pv 2) pe_int) pe_int (nomark _))
        (pss_one (ps_ret (pe_shut (pe_lst (pa_cons (pe_op op_fdiv (pv 2) pe_int) (pa_cons (pe_op op_mod (pe_callB call_abs (by rfl) G.abs (by decide +kernel) (pa_cons (pv 2) pa_nil)) pe_int) pa_nil)))))) pss_nil)
      (pss_cons (ps_set (i := 3) scBox.nd rfl (.inl rfl) pe_int)
      (pss_cons (ps_for PassesOwn.never rfl (pi_range1 rfl G.range (pa_cons pe_int pa_nil)) (pg_name (i := 4) scBox.nd rfl (.inl rfl))
        (pss_cons (ps_set (i := 5) scBox.nd rfl (.inl rfl) (pe_op op_mod (pe_op op_add (pe_op op_add (pe_op op_mul (pe_op op_mod (pv 2) pe_int) pe_int) (pe_op op_mul pe_int (pv 4))) pe_int) pe_int))
        (pss_cons (ps_set (i := 5) scBox.nd rfl (.inl rfl) (pe_op op_mod (pe_op op_mul (pv 5) (pv 5)) pe_int))
        (pss_one (ps_set (i := 3) scBox.nd rfl (.inl rfl) (pe_op op_add (pe_op op_mul (pv 3) pe_int) (pe_op op_mod (pe_op op_mul (pv 5) (pe_op op_add (pv 5) pe_int)) pe_int)))))))
      (pss_one (ps_ret (pe_shut (pe_lst (pa_cons (pv 3) (pa_cons (pe_op op_mod (pe_callB call_abs (by rfl) G.abs (by decide +kernel) (pa_cons (pv 2) pa_nil)) pe_int) pa_nil)))))))))), ?_⟩
    -- 7919 * k + 13
    refine ⟨_, rfl, _, _, rfl, rfl, .inl (by decide), _, _, rfl, rfl, ?_⟩
    -- if k < len(script)
    refine ⟨fun σ' H' => H' = H ∧ ∃ z : Int, σ' = [some (.ref a), some (.int k), some (.int z), none, none, none], ?_, ?_⟩
    · refine ⟨_, rfl, _, rfl, _, _, rfl, .inl hS, _, _, rfl, rfl, _, rfl, ite2 (fun c => ?_) (fun _ => ?_)⟩
      · have c' : k < ((ns.map V.int).length : Int) := of_decide_eq_true c
        rw [List.length_map] at c'
        obtain ⟨j, rfl⟩ := Int.eq_ofNat_of_zero_le hk0
        have hj : j < ns.length := by omega
        refine ⟨_, rfl, _, rfl, _, _, _, .int ns[j], rfl, rfl, hS, atI_nat (by simp [hj]), rfl, ns[j], rfl⟩
      · exact ⟨rfl, _, rfl⟩
    · rintro σ' H' ⟨rfl, z, rfl⟩
      -- if here % 2 == 0
      refine ⟨_, rfl, _, _, rfl, rfl, (by show (0 : Int) < 2; decide), rfl, _, rfl, ite2 (fun _ => ?_) (fun _ => ?_)⟩
      · refine ⟨_, rfl, _, _, rfl, rfl, ⟨by decide, by decide⟩, _, rfl, _, rfl, _, _, rfl, rfl, (by show (0 : Int) < 2147483647; decide), (by show 2 ≤ sizeLine; decide), fun p hp => ⟨p, _, _, rfl, upd_same, ?_⟩⟩
        rw [upd_upd]
        exact q p _ hp (Ex.new hp) upd_same
      · refine ⟨16, rfl, by decide, by decide, for_range (n := 16) (fun i σ' H'' => H'' = H' ∧ ∃ (n : Int) (u v : Option V), σ' = [some (.ref a), some (.int k), some (.int z), some (.int n), u, v]) ⟨rfl, 0, none, none, rfl⟩ ?_ ?_⟩
        · rintro i σ' H'' hi ⟨rfl, n, u, v, rfl⟩
          have hm : ∀ x : Int, 0 ≤ x % 2147483647 ∧ x % 2147483647 < 2147483647 := fun x => ⟨Int.emod_nonneg _ (by decide), Int.emod_lt_of_pos _ (by decide)⟩
          have hm2 : ∀ x : Int, 0 ≤ x % 2147483629 ∧ x % 2147483629 < 2147483629 := fun x => ⟨Int.emod_nonneg _ (by decide), Int.emod_lt_of_pos _ (by decide)⟩
          refine ⟨_, rfl, _, _, rfl, rfl, (by show (0 : Int) < 2147483647; decide), _, _, rfl, rfl, .inr (by decide), _, rfl, _, _, rfl, rfl, .inl (by decide), _, _, rfl, rfl, _, _, rfl, rfl, _, _, rfl, rfl, (by show (0 : Int) < 2147483647; decide), ?_⟩
          refine ⟨_, rfl, _, rfl, _, _, rfl, rfl, .inl ?_, _, _, rfl, rfl, (by show (0 : Int) < 2147483629; decide), ?_⟩
          · have := hm (z % 2147483647 * 48271 + 7919 * (0 + (i : Int)) + 1)
            omega
          refine ⟨_, rfl, _, _, rfl, rfl, .inr (by decide), _, rfl, _, rfl, _, _, rfl, rfl, _, _, rfl, rfl, .inl ?_, _, _, rfl, rfl, (by show (0 : Int) < 2147483647; decide), _, _, rfl, rfl, rfl, _, _, _, rfl⟩
          · have := hm2 ((z % 2147483647 * 48271 + 7919 * (0 + (i : Int)) + 1) % 2147483647 * ((z % 2147483647 * 48271 + 7919 * (0 + (i : Int)) + 1) % 2147483647))
            omega
        · rintro σ' H'' ⟨rfl, n, u, v, rfl⟩
          refine ⟨_, rfl, _, rfl, _, rfl, _, _, rfl, rfl, (by show (0 : Int) < 2147483647; decide), (by show 2 ≤ sizeLine; decide), fun p hp => ⟨p, _, _, rfl, upd_same, ?_⟩⟩
          rw [upd_upd]
          exact q p _ hp (Ex.new hp) upd_same
theorem pow_step {i : Nat} {n r : Int} (h0 : 0 ≤ n) (h : n < 65521 ^ i) (r0 : 0 ≤ r) (r1 : r < 65521) : 0 ≤ n * 65521 + r ∧ n * 65521 + r < 65521 ^ (i + 1) := by
  rw [Int.pow_succ]
  have h2 : n + 1 ≤ 65521 ^ i := h
  have h3 : (n + 1) * 65521 ≤ 65521 ^ i * 65521 := Int.mul_le_mul_of_nonneg_right h2 (by decide)
  rw [Int.add_mul] at h3
  refine ⟨?_, ?_⟩
  · have := Int.mul_nonneg h0 (show (0 : Int) ≤ 65521 by decide)
    omega
  · omega
theorem scMore : FnScope ["_law_box_here", "_law_number", "_law_j"] ["_law_box_here"] (defScope sMore) :=
  ⟨rfl, rfl, rfl, by decide +kernel, rfl, by decide +kernel, by decide +kernel⟩
theorem ok_more {f : Addr} {fd : FuncData} (F : Fun K "_law_more" "_law_more" sMore f fd) (G : Glob mg) :
    FnOk P w K mg base CX0 1 f fd ["_law_box_here"] spMore := by
  refine F.ok scMore (fun vs H Q E h => ?_) (fun cdv A outer s H vs Q E hr h => ?_)
  · obtain ⟨b, rfl, _⟩ := h
    rfl
  · obtain ⟨b, rfl, hb, q⟩ := h
    refine ⟨_, pss_cons (ps_set (i := 1) scMore.nd rfl (.inl rfl) pe_int)
      (pss_cons (ps_for PassesOwn.never rfl (pi_range1 rfl G.range (pa_cons pe_int pa_nil)) (pg_name (i := 2) scMore.nd rfl (.inl rfl))
        (pss_cons (ps_asg (pe_op op_mod (pe_op op_add (pe_op op_mul (pe_ix ix_box (pv 0) pe_int (fun _ _ => rfl)) pe_int) pe_int) pe_int) (pg_sub (pv 0) pe_int set_box))
        (pss_one (ps_set (i := 1) scMore.nd rfl (.inl rfl) (pe_op op_add (pe_op op_mul (pv 1) pe_int) (pe_op op_mod (pe_op op_fdiv (pe_ix ix_box (pv 0) pe_int (fun _ _ => rfl)) pe_int) pe_int))))))
      (pss_one (ps_ret (pv 1)))), ?_⟩
    refine ⟨12, rfl, by decide, by decide, for_range (n := 12) (fun i σ' H' => H' = H ∧ ∃ (n : Int) (u : Option V), σ' = [some (.ref b), some (.int n), u] ∧ 0 ≤ n ∧ n < 65521 ^ i) ⟨rfl, 0, none, rfl, by decide, by decide⟩ ?_ ?_⟩
    · rintro i σ' H' hi ⟨rfl, n, u, rfl, h0, h1⟩
      refine ⟨_, rfl, b, 1, rfl, rfl, .inr rfl, hb, fun z => ⟨_, _, rfl, rfl, .inr (by decide), _, _, rfl, rfl, _, _, rfl, rfl, (by show (0 : Int) < 2147483647; decide), ?_⟩⟩
      refine ⟨_, rfl, b, 1, _, rfl, rfl, rfl, .inr rfl, hb, ?_⟩
      refine ⟨_, rfl, _, _, rfl, rfl, .inr (by decide), _, rfl, b, 1, rfl, rfl, .inr rfl, hb, fun y => ⟨_, _, rfl, rfl, ⟨by decide, by decide⟩, _, _, rfl, rfl, (by show (0 : Int) < 65521; decide), _, _, rfl, rfl, rfl, _, _, rfl, ?_⟩⟩
      exact pow_step h0 h1 (Int.emod_nonneg _ (by decide)) (Int.emod_lt_of_pos _ (by decide))
    · rintro σ' H' ⟨rfl, n, u, rfl, h0, h1⟩
      refine ⟨_, rfl, q n h0 ?_⟩
      have e : (65521 : Int) ^ 12 < 2 ^ 200 := by decide
      have e2 : ((n.natAbs : Nat) : Int) < ((2 ^ 200 : Nat) : Int) := by
        rw [Int.natAbs_of_nonneg h0]
        exact Int.lt_trans h1 (by decide)
      exact Int.ofNat_lt.mp e2
theorem scTake : FnScope ["_law_box_here", "_law_count", "_law_rest_of", "_law_digit"] ["_law_box_here", "_law_count"] (defScope sTake) :=
  ⟨rfl, rfl, rfl, by decide +kernel, rfl, by decide +kernel, by decide +kernel⟩
theorem ok_take {f fM : Addr} {fd fdM : FuncData} (F : Fun K "_law_take" "_law_take" sTake f fd) (G : Glob mg) (FM : Fun K "_law_more" "_law_more" sMore fM fdM) (mM : mg "_law_more" = some (.ref fM)) (bM : Binds K fdM ["_law_box_here"] []) :
    FnOk P w K mg base CX0 2 f fd ["_law_box_here", "_law_count"] spTake := by
  have GM : FnOk P w K mg base CX0 1 fM fdM ["_law_box_here"] spMore := ok_more FM G
  refine F.ok scTake (fun vs H Q E h => ?_) (fun cdv A outer s H vs Q E hr h => ?_)
  · obtain ⟨b, n, rfl, _⟩ := h
    rfl
  · obtain ⟨b, n, rfl, hb, n0, nb, q⟩ := h
    refine ⟨_, pss_cut (ps_if (pt_chain op_le op_lt pe_int (pe_ix ix_box (pv 0) pe_int (fun _ _ => rfl)) (pv 1))
        (pss_one (ps_asg (pe_op op_add (pe_ix ix_box (pv 0) pe_int (fun _ _ => rfl)) (pe_op op_mulW (pv 1) (pe_call GM hr rfl mM FM.kp bM .nil pass0 (pa_cons (pv 0) pa_nil)))) (pg_sub (pv 0) pe_int set_box))) pss_nil)
      (pss_cons (ps_asg (pe_callB call_divmodW (by rfl) G.divmod (by decide +kernel) (pa_cons (pe_ix ix_box (pv 0) pe_int (fun _ _ => rfl)) (pa_cons (pv 1) pa_nil)))
        (pg_tup (by rfl) (pgs_cons (pg_name (i := 2) scTake.nd rfl (.inl rfl)) (pgs_cons (pg_name (i := 3) scTake.nd rfl (.inl rfl)) pgs_nil))))
      (pss_cons (ps_asg (pv 2) (pg_sub (pv 0) pe_int set_box))
      (pss_one (ps_ret (pv 3))))), ?_⟩
    refine ⟨fun σ' H' => H' = H ∧ σ' = [some (.ref b), some (.int n), none, none], ?_, ?_⟩
    · refine ⟨_, rfl, b, 0, rfl, rfl, .inl rfl, hb, fun z => ⟨_, _, rfl, rfl, _, rfl, ite2 (fun c => ?_) (fun _ => ?_)⟩⟩
      · refine ⟨_, rfl, _, _, rfl, rfl, _, rfl, ite2 (fun _ => ?_) (fun _ => ?_)⟩
        · refine ⟨_, rfl, b, 0, rfl, rfl, .inl rfl, hb, fun y => ⟨_, rfl, _, rfl, b, rfl, hb, fun m m0 mb => ⟨_, _, rfl, rfl, wide_mul nb mb (by decide) (by decide) (by decide), _, _, rfl, rfl, ?_⟩⟩⟩
          exact ⟨_, rfl, b, 0, _, rfl, rfl, rfl, .inl rfl, hb, rfl, rfl⟩
        · exact ⟨rfl, rfl⟩
      · exact ⟨_, rfl, iteF ⟨rfl, rfl⟩⟩
    · rintro σ' H' ⟨rfl, rfl⟩
      refine ⟨_, rfl, b, 0, rfl, rfl, .inl rfl, hb, fun z => ⟨_, rfl, _, _, rfl, divP n0 nb (by decide) (by decide), fun p hp => ?_⟩⟩
      have e : Ex H' (upd H' p (.tup [.int (z / n), .int (z % n)])) := Ex.new hp
      refine ⟨p, _, rfl, SqT.of upd_same, rfl, _, _, rfl, _, _, rfl, rfl, ?_⟩
      refine ⟨_, rfl, _, rfl, b, 0, _, rfl, rfl, rfl, .inl rfl, e _ _ hb, ?_⟩
      exact ⟨_, rfl, q _ _ (Int.emod_nonneg _ (by omega)) (Int.emod_lt_of_pos _ n0) e⟩
end
end TH
set_option maxRecDepth 100000
set_option maxHeartbeats 4000000
namespace TH
open PySem L2 Evl
abbrev sName : Stmt := top 34
abbrev sSign : Stmt := top 35
structure GlobS (mg : Str → Option Value) : Prop extends Glob mg where
  all : mg "all" = none
  any : mg "any" = none
  longest : ∃ t, mg "LONGEST_NAME" = some (.int 3 t)
  most : ∃ t, mg "MOST_SIGNS_signs" = some (.int 6 t)
  mostK : ∃ t, mg "MOST_KIDS" = some (.int 2 t)
  enumerate : mg "enumerate" = none
section
variable {K : PySem.W.Frag} {M : Addr → Prop} {H H1 H' : Hp} {σ : L2.St} {ta tb tc te tl : TE}
/-- a chain of two <= of texts -/
theorem evd_chainS {i j k : Str} (ha : EvD K M ta σ H (.str i)) (hb : EvD K M tb σ H (.str j)) (hc : EvD K M tc σ H (.str k)) :
    EvD K M (tChain (fun x y H Q => ∃ i j, x = .str i ∧ y = .str j ∧ Q (.bl (!decide (j.cps.toList < i.cps.toList))) H) (fun x y H Q => ∃ i j, x = .str i ∧ y = .str j ∧ Q (.bl (!decide (j.cps.toList < i.cps.toList))) H) ta tb tc) σ H
      (.bool ((!decide (j.cps.toList < i.cps.toList)) && (!decide (k.cps.toList < j.cps.toList)))) := fun H1 e Q q =>
  ha H1 e _ fun x a H2 e2 dx px => hb H2 (e.trans e2) _ fun y b H3 e3 dy py => by
    subst px py
    cases dx
    cases dy
    refine ⟨i, j, rfl, rfl, _, rfl, ?_⟩
    cases hg : (!decide (j.cps.toList < i.cps.toList)) with
    | false => exact iteF (q _ _ H3 (e2.trans e3) (.bl _) (by rw [hg]; rfl))
    | true => exact iteT (hc H3 ((e.trans e2).trans e3) _ fun z c H4 e4 dz pz => by
        subst pz
        cases dz
        exact ⟨j, k, rfl, rfl, q _ _ H4 ((e2.trans e3).trans e4) (.bl _) (by rw [hg]; rfl)⟩)
/-- all, any -/
theorem evd_all {ta : TA} {bs : List Bool} (h : EvDA K M ta σ H [.list (bs.map PyData.bool)]) : EvD K M (tCB (rAll K) ta) σ H (.bool (bs.all id)) :=
  evp_cb h fun vs ds H1 e dv pd Q q => by
    subst pd
    cases dv with
    | cons h1 h2 =>
      cases h2
      cases h1 with
      | lst k1 k2 k3 => exact ⟨_, bs, rfl, by rw [← k3.bls]; exact sq_of k1, q _ _ H1 (Ex.refl _) (.bl _) rfl⟩
theorem evd_any {ta : TA} {bs : List Bool} (h : EvDA K M ta σ H [.list (bs.map PyData.bool)]) : EvD K M (tCB (rAny K) ta) σ H (.bool (bs.any id)) :=
  evp_cb h fun vs ds H1 e dv pd Q q => by
    subst pd
    cases dv with
    | cons h1 h2 =>
      cases h2
      cases h1 with
      | lst k1 k2 k3 => exact ⟨_, bs, rfl, by rw [← k3.bls]; exact sq_of k1, q _ _ H1 (Ex.refl _) (.bl _) rfl⟩
/-- len of a text, of a list, of a tuple -/
theorem evd_lenS {ta : TA} {z : Str} (h : EvDA K M ta σ H [.str z]) (hz : z.length ≤ sizeLine) : EvD K M (tCB (fun xs H Q => ∃ z, xs = [.str z] ∧ z.length ≤ sizeLine ∧ Q (.int z.length) H) ta) σ H (.int z.length) :=
  evp_cb h fun vs ds H1 e dv pd Q q => by
    subst pd
    cases dv with
    | cons h1 h2 =>
      cases h2
      cases h1
      exact ⟨z, rfl, hz, q _ _ H1 (Ex.refl _) (.int _) rfl⟩
theorem evd_lenL {ta : TA} {es : List PyData} (h : EvDA K M ta σ H [.list es]) : EvD K M (tCB (fun xs H Q => ∃ p ys, xs = [.ref p] ∧ (SqL K H p ys ∨ SqT K H p ys) ∧ Q (.int ys.length) H) ta) σ H (.int es.length) :=
  evp_cb h fun vs ds H1 e dv pd Q q => by
    subst pd
    cases dv with
    | cons h1 h2 =>
      cases h2
      cases h1 with
      | lst k1 k2 k3 => exact ⟨_, _, rfl, .inl (sq_of k1), q _ _ H1 (Ex.refl _) (.int _) (by rw [k3.length])⟩
theorem evd_lenT {ta : TA} {es : List PyData} (h : EvDA K M ta σ H [.tuple es]) : EvD K M (tCB (fun xs H Q => ∃ p ys, xs = [.ref p] ∧ (SqL K H p ys ∨ SqT K H p ys) ∧ Q (.int ys.length) H) ta) σ H (.int es.length) :=
  evp_cb h fun vs ds H1 e dv pd Q q => by
    subst pd
    cases dv with
    | cons h1 h2 =>
      cases h2
      cases h1 with
      | tup k1 k3 => exact ⟨_, _, rfl, .inr (SqT.of k1), q _ _ H1 (Ex.refl _) (.int _) (by rw [k3.length])⟩
theorem evt_not {t : TT} {b : Bool} (h : EvT t σ H b) : EvT (tNot t) σ H (!b) := et_not h
end
theorem filter_yes {α : Type} (l : List α) : l.filter (fun _ => true) = l := by simp
/-! ### is_name, is_sign -/
def okc (c : Nat) : Bool := (!decide ([c] < ("a" : Str).cps.toList)) && (!decide (("z" : Str).cps.toList < [c]))
def isNameB (z : Str) : Bool := (decide (1 ≤ (z.length : Int)) && decide ((z.length : Int) ≤ 3)) && z.cps.toList.all okc
def nameA : List PyData → Prop := fun ds => ∃ z : Str, ds = [.str z, .int 3] ∧ z.length ≤ 100000
def nameF : List PyData → PyData
  | [.str z, .int _] => .bool (isNameB z)
  | _ => .none
section
variable {P : Program} {w : World} {K : PySem.W.Frag} {mg : Str → Option Value} {base : Heap}
theorem scName : FnScope ["name", "longest", "letter"] ["name", "longest"] (defScope sName) := ⟨rfl, rfl, rfl, by decide +kernel, rfl, by decide +kernel, by decide +kernel⟩
theorem ok_name {f : Addr} {fd : FuncData} (F : Fun K "is_name" "is_name" sName f fd) (G : GlobS mg) : FnOk P w K mg base CX0 1 f fd ["name", "longest"] (spD K nameA fun ds d => d = nameF ds) := by
  refine F.ok scName (fun vs H Q E h => ?_) (fun cdv A outer s H vs Q E hr h => ?_)
  · obtain ⟨M, ds, _, dv, ⟨z, rfl, _⟩, _⟩ := h
    exact dv.length
  · obtain ⟨M, ds, ok, dv, ⟨z, rfl, hz⟩, q⟩ := h
    cases dv with
    | cons h1 h2 =>
    cases h2 with
    | cons h3 h4 =>
    cases h1
    cases h3
    cases h4
    refine ⟨_, pss_cons (ps_if (pt_not (pt_chain op_le op_le pe_int (pe_callB call_len_str (by rfl) G.len PySem.boot_len (pa_cons (pv 0) pa_nil)) (pv 1))) (pss_one (ps_ret pe_bl)) pss_nil)
      (pss_one (ps_ret (pe_callB (cr_all rfl) (by rfl) G.all (by decide +kernel) (pa_cons (pe_lc (own := [("letter", 2)]) (g := gName 2) (tt := tYes) rfl scName.nd (pi_str (pv 0))
          (blkOk_by (N := ["name", "longest", "letter"]) (sc := defScope sName) (by decide +kernel)) (fun _ _ _ _ _ => pg_name (i := 2) scName.nd rfl (.inl rfl)) (fun _ _ _ _ _ => pts_nil)
          (fun _ _ _ _ _ => pe_chain op_le_str op_le_str pe_str (pv 2) pe_str)) pa_nil)))), ?_⟩
    have hs : z.length ≤ sizeLine := sz_of hz
    -- if not 1 <= len(name) <= 3
    refine q_when (evt_not (evt_test (K := K) (M := M) (evd_chainI (g := fun i j => decide (i ≤ j)) (g' := fun i j => decide (i ≤ j)) evd_int (evd_lenS (eva_cons (evd_var rfl (.str z)) eva_nil) hs) (evd_var rfl (.int 3))))) (fun hb H1 e1 => ?_) (fun hb H1 e1 => ?_)
    · refine q _ _ H1 e1 (.bl _) ?_
      show PyData.bool false = .bool (isNameB z)
      unfold isNameB
      rw [Bool.not_eq_true'] at hb
      rw [hb]
      rfl
    · rw [Bool.not_eq_false'] at hb
      have ok1 := ok.ex e1
      refine s_retP (K := K) (M := M) (evd_all (bs := z.cps.toList.map okc) (eva_cons ?_ eva_nil)) fun v d H2 e2 dv pd => q v d H2 (e1.trans e2) dv ?_
      · refine (evd_lcS (fun _ => true) (fun c => .bool (okc c)) ok1 (evd_var rfl (.str z)) (Nat.lt_of_le_of_lt hz (by decide)) fun M' c H' hm ok' hc e Qg qg => ?_).mono fun d h => ?_
        · exact qg _ H' (Ex.refl _) ⟨rfl, evt_yes, fun _ => (evd_chainS (i := "a") (j := ⟨#[c]⟩) (k := "z") evd_str (evd_var rfl (.str _)) evd_str).mono fun d h => h⟩
        · rw [h, filter_yes, List.map_map]
          rfl
      · rw [pd]
        show _ = PyData.bool (isNameB z)
        unfold isNameB
        rw [hb, List.all_map]
        rfl
end
end TH
set_option maxRecDepth 100000
set_option maxHeartbeats 4000000
namespace TH
open PySem L2 Evl
/-! ### how many unlike members -/
def sadd (p : (Key → Bool) × Nat) (k : Key) : (Key → Bool) × Nat := (fun j => p.1 j || decide (j = k), if p.1 k = true then p.2 else p.2 + 1)
def sall (ks : List Key) : (Key → Bool) × Nat := ks.foldl sadd (fun _ => false, 0)
theorem sadd_le : ∀ (ks : List Key) (p : (Key → Bool) × Nat), (ks.foldl sadd p).2 ≤ p.2 + ks.length
  | [], p => Nat.le_refl _
  | k :: ks, p => by
    have h := sadd_le ks (sadd p k)
    have h2 : (sadd p k).2 ≤ p.2 + 1 := by
      unfold sadd
      dsimp only
      split <;> omega
    rw [List.foldl_cons, List.length_cons]
    omega
theorem sadd_new : ∀ (ks : List Key) (p : (Key → Bool) × Nat), ks.Nodup → (∀ k ∈ ks, p.1 k = false) → (ks.foldl sadd p).2 = p.2 + ks.length
  | [], p, _, _ => rfl
  | k :: ks, p, nd, hp => by
    obtain ⟨h1, h2⟩ := List.nodup_cons.mp nd
    have e : (sadd p k).2 = p.2 + 1 := by
      unfold sadd
      dsimp only
      rw [hp k List.mem_cons_self, if_neg Bool.false_ne_true]
    rw [List.foldl_cons, sadd_new ks (sadd p k) h2, e, List.length_cons]
    · omega
    · intro j hj
      show (p.1 j || decide (j = k)) = false
      rw [hp j (List.mem_cons_of_mem _ hj), decide_eq_false (show ¬ j = k from fun e => h1 (by rw [← e]; exact hj))]
      rfl
theorem sadd_old : ∀ (ks : List Key) (p : (Key → Bool) × Nat), (¬ ks.Nodup ∨ ∃ k ∈ ks, p.1 k = true) → (ks.foldl sadd p).2 < p.2 + ks.length
  | [], p, h => by
    rcases h with h | ⟨k, hk, _⟩
    · exact absurd List.nodup_nil h
    · cases hk
  | k :: ks, p, h => by
    rw [List.foldl_cons, List.length_cons]
    by_cases hk : p.1 k = true
    · have e : (sadd p k).2 = p.2 := by
        unfold sadd
        dsimp only
        rw [if_pos hk]
      have := sadd_le ks (sadd p k)
      omega
    · have e : (sadd p k).2 = p.2 + 1 := by
        unfold sadd
        dsimp only
        rw [if_neg hk]
      have := sadd_old ks (sadd p k) ?_
      · omega
      · by_cases hm : k ∈ ks
        · exact .inr ⟨k, hm, by show (p.1 k || decide (k = k)) = true; simp⟩
        · rcases h with h | ⟨j, hj, e2⟩
          · exact .inl fun nd => h (List.nodup_cons.mpr ⟨hm, nd⟩)
          · rcases List.mem_cons.mp hj with rfl | hj
            · exact absurd e2 hk
            · exact .inr ⟨j, hj, by show (p.1 j || decide (j = k)) = true; rw [e2]; rfl⟩
theorem sall_lt (ks : List Key) : ((sall ks).2 < ks.length) = ¬ ks.Nodup := by
  apply propext
  constructor
  · intro h nd
    have := sadd_new ks (fun _ => false, 0) nd fun _ _ => rfl
    unfold sall at h
    omega
  · intro h
    have := sadd_old ks (fun _ => false, 0) (.inl h)
    unfold sall
    omega
section
variable {X : Cx}
def rLenK (P : Program) (w : World) : List V → Hp → VK → Prop := fun xs H Q => ∃ (a : Addr) (S : Key → Bool) (n : Nat), xs = [.ref a] ∧ H a = some (SetK P w a S n) ∧ Q (.int n) H
theorem call_lenK : CallR X (.builtin "len") (rLenK X.prog X.w) := by
  intro pins s σ H xs us Q I r h
  obtain ⟨a, S, n, rfl, ha, q⟩ := h
  cases r with
  | cons r1 r2 =>
    cases r2
    cases r1
    obtain ⟨o, es, ep, t, ho, hx, hd, _, _, hb, hf, hn⟩ := setK_get I ha
    refine call_len_set ho hx hd hf ?_ ?_
    · have : es.size < 2 ^ 32 := Nat.lt_of_lt_of_le hb (by decide)
      omega
    · rw [hn]
      exact ⟨.int n, H, I.kept (t' := s.toks + 1 + 1) fun _ _ z => z, ⟨_, rfl⟩, q⟩
end
section
variable {K : PySem.W.Frag} {M : Addr → Prop} {H H1 H' : Hp} {σ : L2.St} {ta tb tc te tl : TE} {P : Program} {w : World} {g : TG} {vs : List Nat}
/-- len({elt for x in list}) -/
theorem evd_lenSc {ds : List PyData} (F : PyData → Key) (ok : Ok M H) (hl : EvD K M tl σ H (.list ds)) (hz : ds.length < 1000)
    (hs : ∀ (M' : Addr → Prop) (d : PyData) (x : V) (H' : Hp), (∀ v d, Dt K M H v d → Dt K M' H' v d) → Ok M' H' → d ∈ ds → Ex H H' → Dt K M' H' x d →
      ∀ Qg : L2.St → Hp → Prop, (∀ σ2 H2, Ex H' H2 → wipe σ2 vs = wipe σ vs → Ev te σ2 H2 (kV (F d)) → Qg σ2 H2) → g x (wipe σ vs) H' Qg) :
    EvD K M (tCB (rLenK P w) (tCons (tScK P w (iList K tl) g tYes te vs) tNil)) σ H (.int (sall (ds.map F)).2) := fun H0 e Q q =>
  hl H0 e _ fun v d H1 e1 dv pd => by
    subst pd
    cases dv with
    | lst h1 h2 h3 =>
      rename_i a xs
      refine ⟨a, rfl, ⟨xs, sq_of h1⟩, fun D hD => ?_⟩
      have okD : ∀ {H}, Ex H1 H → H D ≠ none → Ok (TH.more M D) H := fun {H} e2 n l m => by
        rcases m with m | rfl
        · exact (ok.ex ((e.trans e1).trans e2)) l m
        · exact n
      refine ⟨fun i m H => m = ds.length - i ∧ i ≤ ds.length ∧ Ex H1 H ∧ H D = some (SetK P w D (sall ((ds.take i).map F)).1 (sall ((ds.take i).map F)).2),
        ⟨ds.length, by simp, Nat.zero_le _, Ex.new hD, upd_same⟩, ?_⟩
      rintro i m H2 ⟨rfl, hi, e2, hset⟩
      by_cases hlt : i < ds.length
      · refine .inr ⟨⟨xs, xs[i]'(by rw [h3.length]; exact hlt), sq_of (e2 _ _ h1), by simp⟩, fun H' => Ex H1 H' ∧ H' D = some (SetK P w D (sall ((ds.take (i + 1)).map F)).1 (sall ((ds.take (i + 1)).map F)).2), fun H' p' => ⟨ds.length - (i + 1), by omega, rfl, hlt, p'⟩, fun x H' y => ?_⟩
        obtain ⟨rfl, hx⟩ := y
        have hx := hx xs (sq_of (e2 _ _ h1))
        obtain ⟨d, hd, dx⟩ := h3.get hx
        have tk : (ds.take (i + 1)).map F = (ds.take i).map F ++ [F d] := by rw [List.take_add_one, hd, List.map_append]; rfl
        refine hs (TH.more M D) d x _ (fun v d h => ((h.ex (e.trans e1)).more hD).ex e2) (okD e2 (by rw [hset]; simp)) (List.mem_of_getElem? hd) ((e.trans e1).trans e2) ((dx.more hD).ex e2) _ fun σ2 H3 e3 hw he => ?_
        refine ⟨hw, ?_⟩
        show te σ2 H3 _
        refine he H3 (Ex.refl _) _ fun H4 e4 => ⟨F d, _, _, rfl, (e3.trans e4) _ _ hset, ?_, ?_, ?_⟩
        · have h1 := sadd_le ((ds.take i).map F) (fun _ => false, 0)
          rw [List.length_map, List.length_take] at h1
          have h2 : (sall ((ds.take i).map F)).2 ≤ 0 + min i ds.length := h1
          have h3 : (2000 : Nat) < scanBound := by decide
          omega
        · exact Ex.mut ((e2.trans e3).trans e4) hD
        · rw [tk]
          unfold sall
          rw [List.foldl_append]
          exact upd_same
      · have ei : i = ds.length := by omega
        subst ei
        refine .inl ⟨⟨xs, sq_of (e2 _ _ h1), by rw [h3.length]; exact Nat.le_refl _⟩, ?_⟩
        rw [List.take_length] at hset
        exact ⟨D, _, _, rfl, hset, q _ _ H2 (e1.trans e2) (.int _) rfl⟩
end
end TH
set_option maxRecDepth 100000
set_option maxHeartbeats 4000000
namespace TH
open PySem L2 Evl
abbrev sAre : Stmt := top 36
/-! ### books as data -/
abbrev Sg := Str × Int
def sgD (p : Sg) : PyData := .tuple [.str p.1, .int p.2]
def sgU : PyData → Sg
  | .tuple [.str z, .int k] => (z, k)
  | _ => (Str.empty, 0)
theorem sgU_map (S : List Sg) : (S.map sgD).map sgU = S := by
  rw [List.map_map]
  exact (List.map_congr_left fun p _ => rfl).trans (List.map_id S)
def isSignB (p : Sg) : Bool := isNameB p.1 && (decide (0 ≤ p.2) && decide (p.2 ≤ 2))
def validB (S : List Sg) : Bool :=
  (decide (1 ≤ (S.length : Int)) && decide ((S.length : Int) ≤ 6)) && (S.all isSignB && (!decide (((sall (S.map fun p => Sum.inr p.1)).2 : Int) < (S.length : Int)) && S.any fun p => decide (p.2 = 0)))
def signA : List PyData → Prop := fun ds => ∃ p : Sg, ds = [sgD p] ∧ p.1.length ≤ 100000
def signF : List PyData → PyData
  | [d] => .bool (isSignB (sgU d))
  | _ => .none
def areA : List PyData → Prop := fun ds => ∃ S : List Sg, ds = [.list (S.map sgD)] ∧ S.length ≤ 100 ∧ ∀ p ∈ S, p.1.length ≤ 100000
def areF : List PyData → PyData
  | [.list es] => .bool (validB (es.map sgU))
  | _ => .none
theorem areF_eq (S : List Sg) : areF [.list (S.map sgD)] = .bool (validB S) := by
  show PyData.bool (validB ((S.map sgD).map sgU)) = _
  rw [sgU_map]
section
variable {P : Program} {w : World} {K : PySem.W.Frag} {mg : Str → Option Value} {base : Heap}
theorem scSign : FnScope ["sign"] ["sign"] (defScope sSign) := ⟨rfl, rfl, rfl, by decide +kernel, rfl, by decide +kernel, by decide +kernel⟩
theorem ok_sign {f fN : Addr} {fd fdN : FuncData} (F : Fun K "is_sign" "is_sign" sSign f fd) (G : GlobS mg) (FN : Fun K "is_name" "is_name" sName fN fdN) (mN : mg "is_name" = some (.ref fN)) (bN : Binds K fdN ["name", "longest"] []) :
    FnOk P w K mg base CX0 2 f fd ["sign"] (spD K signA fun ds d => d = signF ds) := by
  have GN : FnOk P w K mg base CX0 1 fN fdN ["name", "longest"] (spD K nameA fun ds d => d = nameF ds) := ok_name FN G
  refine F.ok scSign (fun vs H Q E h => ?_) (fun cdv A outer s H vs Q E hr h => ?_)
  · obtain ⟨M, ds, _, dv, ⟨z, rfl, _⟩, _⟩ := h
    exact dv.length
  · obtain ⟨M, ds, ok, dv, ⟨p, rfl, hz⟩, q⟩ := h
    obtain ⟨t, hL⟩ := G.mostK
    obtain ⟨t3, hL3⟩ := G.longest
    cases dv with
    | cons h1 h2 =>
    cases h2
    rename_i v0
    refine ⟨_, pss_one (ps_ret (pe_and (pe_cmpR op_eq (pe_callB call_len_seq (by rfl) G.len PySem.boot_len (pa_cons (pv 0) pa_nil)) pe_int (nomark _))
      (pe_and (pe_call GN hr rfl mN FN.kp bN .nil pass0 (pa_cons (pe_ix ix_tup (pv 0) pe_int (fun _ _ => rfl)) (pa_cons (pe_glob rfl hL3 (show RelV (.int 3) _ from ⟨_, rfl⟩)) pa_nil)))
      (pe_one (pe_chain op_le op_le pe_int (pe_ix ix_tup (pv 0) pe_int (fun _ _ => rfl)) (pe_glob rfl hL (show RelV (.int 2) _ from ⟨_, rfl⟩))))))), ?_⟩
    have hv : ∀ {H'}, Ex H H' → EvD K M (tVar 0) (start ["sign"] [v0]) H' (sgD p) := fun e => evd_var rfl (h1.ex e)
    refine s_retP (K := K) (M := M) (evd_andV (evd_eqI (evd_lenT (eva_cons (hv (Ex.refl _)) eva_nil)) evd_int) fun _ => evd_andV ((evd_call (F := nameF) ok (eva_cons (evd_ixT (j := 0) (hv (Ex.refl _)) evd_int rfl rfl) (eva_cons evd_int eva_nil)) ⟨p.1, rfl, hz⟩)) fun _ =>
      evd_chainI (g := fun i j => decide (i ≤ j)) (g' := fun i j => decide (i ≤ j)) evd_int (evd_ixT (j := 1) (hv (Ex.refl _)) evd_int rfl rfl) evd_int) fun v d H2 e2 dv pd => q v d H2 e2 dv ?_
    rw [pd]
    rfl
theorem scAre : FnScope ["signs", "sign"] ["signs"] (defScope sAre) := ⟨rfl, rfl, rfl, by decide +kernel, rfl, by decide +kernel, by decide +kernel⟩
theorem ok_are {f fN fS : Addr} {fd fdN fdS : FuncData} (F : Fun K "are_signs" "are_signs" sAre f fd) (G : GlobS mg) (FN : Fun K "is_name" "is_name" sName fN fdN) (mN : mg "is_name" = some (.ref fN)) (bN : Binds K fdN ["name", "longest"] [])
    (FS : Fun K "is_sign" "is_sign" sSign fS fdS) (mS : mg "is_sign" = some (.ref fS)) (bS : Binds K fdS ["sign"] []) :
    FnOk P w K mg base CX0 3 f fd ["signs"] (spD K areA fun ds d => d = areF ds) := by
  have GS : FnOk P w K mg base CX0 2 fS fdS ["sign"] (spD K signA fun ds d => d = signF ds) := ok_sign FS G FN mN bN
  refine F.ok scAre (fun vs H Q E h => ?_) (fun cdv A outer s H vs Q E hr h => ?_)
  · obtain ⟨M, ds, _, dv, ⟨z, rfl, _⟩, _⟩ := h
    exact dv.length
  · obtain ⟨M, ds, ok, dv, ⟨S, rfl, hlen, hz⟩, q⟩ := h
    obtain ⟨t, hL⟩ := G.most
    cases dv with
    | cons h1 h2 =>
    cases h2
    rename_i v0
    refine ⟨_, pss_cons (ps_if (pt_not (pt_chain op_le op_le pe_int (pe_callB call_len_seq (by rfl) G.len PySem.boot_len (pa_cons (pv 0) pa_nil)) (pe_glob rfl hL (show RelV (.int 6) _ from ⟨_, rfl⟩)))) (pss_one (ps_ret pe_bl)) pss_nil)
      (pss_cons (ps_if (pt_not (pt_val (pe_callB (cr_all rfl) (by rfl) G.all (by decide +kernel) (pa_cons (pe_lc (own := [("sign", 1)]) (g := gName 1) (tt := tYes) rfl scAre.nd (pi_list (pv 0))
          (blkOk_by (N := ["signs", "sign"]) (sc := defScope sAre) (by decide +kernel)) (fun _ _ _ _ _ => pg_name (i := 1) scAre.nd rfl (.inl rfl)) (fun _ _ _ _ _ => pts_nil)
          (fun _ _ _ _ _ => pe_call GS hr rfl mS FS.kp bS .nil pass0 (pa_cons (pv 1) pa_nil))) pa_nil)))) (pss_one (ps_ret pe_bl)) pss_nil)
      (pss_cons (ps_if (pt_cmpR op_lt (pe_callB call_lenK (by rfl) G.len PySem.boot_len (pa_cons (pe_scK (own := [("sign", 1)]) (g := gName 1) (tt := tYes) rfl scAre.nd (pi_list (pv 0))
          (blkOk_by (N := ["signs", "sign"]) (sc := defScope sAre) (by decide +kernel)) (fun _ _ _ _ _ => pg_name (i := 1) scAre.nd rfl (.inl rfl)) (fun _ _ _ _ _ => pts_nil)
          (fun _ _ _ _ _ => pe_ix (ix_tupK (K := K) rfl) (pv 1) pe_int (fun _ _ => rfl))) pa_nil)) (pe_callB call_len_seq (by rfl) G.len PySem.boot_len (pa_cons (pv 0) pa_nil)) (nomark _)) (pss_one (ps_ret pe_bl)) pss_nil)
      (pss_one (ps_ret (pe_callB (cr_any rfl) (by rfl) G.any (by decide +kernel) (pa_cons (pe_lc (own := [("sign", 1)]) (g := gName 1) (tt := tYes) rfl scAre.nd (pi_list (pv 0))
          (blkOk_by (N := ["signs", "sign"]) (sc := defScope sAre) (by decide +kernel)) (fun _ _ _ _ _ => pg_name (i := 1) scAre.nd rfl (.inl rfl)) (fun _ _ _ _ _ => pts_nil)
          (fun _ _ _ _ _ => pe_cmpR op_eq (pe_ix (ix_tupK (K := K) rfl) (pv 1) pe_int (fun _ _ => rfl)) pe_int (nomark _))) pa_nil)))))), ?_⟩
    have hv : ∀ {H'}, Ex H H' → EvD K M (tVar 0) (start ["signs", "sign"] [v0]) H' (.list (S.map sgD)) := fun e => evd_var rfl (h1.ex e)
    have hlen' : (S.map sgD).length < sizeLine := by rw [List.length_map]; exact Nat.lt_of_le_of_lt hlen (by decide)
    have mem : ∀ d ∈ S.map sgD, ∃ p ∈ S, d = sgD p := fun d hd => by
      obtain ⟨p, hp, e⟩ := List.mem_map.mp hd
      exact ⟨p, hp, e.symm⟩
    have fin : ∀ b, validB S = b → PyData.bool b = areF [.list (S.map sgD)] := fun b e => by rw [areF_eq, e]
    -- the number of signs
    refine q_when (evt_not (evt_test (K := K) (M := M) (evd_chainI (g := fun i j => decide (i ≤ j)) (g' := fun i j => decide (i ≤ j)) evd_int (evd_lenL (eva_cons (hv (Ex.refl _)) eva_nil)) evd_int))) (fun hb H1 e1 => ?_) (fun hb H1 e1 => ?_)
    · refine q _ _ H1 e1 (.bl _) (fin _ ?_)
      rw [Bool.not_eq_true', List.length_map] at hb
      unfold validB
      rw [hb]
      rfl
    rw [Bool.not_eq_false', List.length_map] at hb
    have ok1 := ok.ex e1
    -- all signs are signs
    refine q_when (evt_not (evt_B (K := K) (M := M) (evd_all (bs := S.map isSignB) (eva_cons ?_ eva_nil)))) (fun hb2 H2 e2 => ?_) (fun hb2 H2 e2 => ?_)
    · refine (evd_lcL (fun _ => true) (fun d => signF [d]) ok1 (hv e1) hlen' fun M' d x H' hm ok' hd e dx Qg qg => ?_).mono fun d h => ?_
      · obtain ⟨p, hp, rfl⟩ := mem d hd
        exact qg _ H' (Ex.refl _) ⟨rfl, evt_yes, fun _ => evd_call (F := signF) ok' (eva_cons (evd_var rfl dx) eva_nil) ⟨p, rfl, hz p hp⟩⟩
      · rw [h, filter_yes, List.map_map, List.map_map]
        rfl
    · refine q _ _ H2 (e1.trans e2) (.bl _) (fin _ ?_)
      rw [Bool.not_eq_true', List.all_map] at hb2
      unfold validB
      rw [hb, show S.all isSignB = false from hb2]
      rfl
    rw [Bool.not_eq_false', List.all_map] at hb2
    have e12 := e1.trans e2
    have ok2 := ok.ex e12
    -- unlike names
    refine q_when (evt_test (K := K) (M := M) (evd_cmp (g := fun i j => decide (i < j)) (evd_lenSc (fun d => Sum.inr (sgU d).1) ok2 (hv e12) (by rw [List.length_map]; omega) fun M' d x H' hm ok' hd e dx Qg qg => ?_) (evd_lenL (eva_cons (hv e12) eva_nil)))) (fun hb3 H3 e3 => ?_) (fun hb3 H3 e3 => ?_)
    · obtain ⟨p, hp, rfl⟩ := mem d hd
      cases dx with
      | tup k1 k2 =>
        cases k2 with
        | cons r1 r2 =>
          cases r1
          exact qg _ H' (Ex.refl _) rfl (ev_op (ev_var rfl) ev_c (rv_ixT (SqT.of k1) (atI_nat (j := 0) rfl)))
    · refine q _ _ H3 (e12.trans e3) (.bl _) (fin _ ?_)
      rw [List.map_map, List.length_map] at hb3
      unfold validB
      rw [hb, show S.all isSignB = true from hb2, show decide (((sall (S.map fun p => Sum.inr p.1)).2 : Int) < (S.length : Int)) = true from hb3]
      rfl
    rw [List.map_map, List.length_map] at hb3
    have e13 := e12.trans e3
    have ok3 := ok.ex e13
    refine s_retP (K := K) (M := M) (evd_any (bs := S.map fun p => decide (p.2 = 0)) (eva_cons ?_ eva_nil)) fun v d H4 e4 dv pd => q v d H4 (e13.trans e4) dv ?_
    · refine (evd_lcL (fun _ => true) (fun d => .bool (decide ((sgU d).2 = 0))) ok3 (hv e13) hlen' fun M' d x H' hm ok' hd e dx Qg qg => ?_).mono fun d h => ?_
      · obtain ⟨p, hp, rfl⟩ := mem d hd
        exact qg _ H' (Ex.refl _) ⟨rfl, evt_yes, fun _ => evd_eqI (evd_ixT (j := 1) (evd_var rfl dx) evd_int rfl rfl) evd_int⟩
      · rw [h, filter_yes, List.map_map, List.map_map]
        rfl
    · rw [pd]
      refine fin _ ?_
      unfold validB
      rw [hb, show S.all isSignB = true from hb2, show decide (((sall (S.map fun p => Sum.inr p.1)).2 : Int) < (S.length : Int)) = false from hb3, List.any_map]
      rfl
end
end TH
set_option maxRecDepth 100000
set_option maxHeartbeats 4000000
namespace TH
open PySem L2 Evl
abbrev sInit : Stmt := inClass (top 37) 0
abbrev sMany : Stmt := inClass (top 37) 1
abbrev sHas : Stmt := inClass (top 37) 2
abbrev sNm : Stmt := inClass (top 37) 3
abbrev sKd : Stmt := inClass (top 37) 4
abbrev sNum : Stmt := inClass (top 37) 5
abbrev sLike : Stmt := inClass (top 37) 6
/-! ### a Book in the heap -/
theorem nk : ¬ (("_names" : Str) = "_kids") := by decide +kernel
def flds (l1 l2 : Addr) : List (Str × V) := putF "_kids" (.ref l2) (putF "_names" (.ref l1) [])
theorem flds_names (l1 l2 : Addr) : (flds l1 l2).lookup ("_names" : Str) = some (.ref l1) := by
  unfold flds
  rw [lookup_putF, if_neg nk, lookup_putF, if_pos rfl]
theorem flds_kids (l1 l2 : Addr) : (flds l1 l2).lookup ("_kids" : Str) = some (.ref l2) := by
  unfold flds
  rw [lookup_putF, if_pos rfl]
theorem flds_no (l1 l2 : Addr) {m : Str} (h1 : ¬ m = "_kids") (h2 : ¬ m = "_names") : (flds l1 l2).lookup m = none := by
  unfold flds
  rw [lookup_putF, if_neg h1, lookup_putF, if_neg h2]
  rfl
def BookAt (C : Addr) (M : Addr → Prop) (H : Hp) (p : Addr) (S : List Sg) : Prop :=
  ∃ dx l1 l2, H p = some (.ins C dx (flds l1 l2)) ∧ H l1 = some (.lst (S.map fun q => V.str q.1)) ∧ ¬ M l1 ∧ H l2 = some (.lst (S.map fun q => V.int q.2)) ∧ ¬ M l2
section
variable {K : PySem.W.Frag} {M M' : Addr → Prop} {H H' : Hp} {C p : Addr} {S : List Sg}
theorem BookAt.ex (h : BookAt C M H p S) (e : Ex H H') : BookAt C M H' p S := by
  obtain ⟨dx, l1, l2, h1, h2, h3, h4, h5⟩ := h
  exact ⟨dx, l1, l2, e _ _ h1, e _ _ h2, h3, e _ _ h4, h5⟩
theorem BookAt.weak (h : BookAt C M H p S) (m : ∀ a, M' a → M a) : BookAt C M' H p S := by
  obtain ⟨dx, l1, l2, h1, h2, h3, h4, h5⟩ := h
  exact ⟨dx, l1, l2, h1, h2, fun z => h3 (m _ z), h4, fun z => h5 (m _ z)⟩
theorem BookAt.more {D : Addr} (h : BookAt C M H p S) (hD : H D = none) : BookAt C (TH.more M D) H p S := by
  obtain ⟨dx, l1, l2, h1, h2, h3, h4, h5⟩ := h
  refine ⟨dx, l1, l2, h1, h2, fun z => ?_, h4, fun z => ?_⟩
  · rcases z with z | z
    · exact h3 z
    · rw [z, hD] at h2
      cases h2
  · rcases z with z | z
    · exact h5 z
    · rw [z, hD] at h4
      cases h4
theorem BookAt.upd {l : Addr} {ys : List V} {o : HO} (h : BookAt C M H p S) (hl : H l = some (.lst ys)) (m : M l) : BookAt C M (L2.upd H l o) p S := by
  obtain ⟨dx, l1, l2, h1, h2, h3, h4, h5⟩ := h
  refine ⟨dx, l1, l2, ?_, ?_, h3, ?_, h5⟩
  · rw [upd_ne (ne_of h1 hl (by intro z; cases z))]
    exact h1
  · rw [upd_ne (show l1 ≠ l from fun z => h3 (by rw [z]; exact m))]
    exact h2
  · rw [upd_ne (show l2 ≠ l from fun z => h5 (by rw [z]; exact m))]
    exact h4
theorem Dt.updI {v : V} {d : PyData} {l : Addr} {C dx : Addr} {fs : List (Str × V)} {o : HO} (h : Dt K M H v d) (hl : H l = some (.ins C dx fs)) : Dt K M (L2.upd H l o) v d :=
  Dt.move (fun a xs h n => ⟨by rw [upd_ne (ne_of h hl (by intro z; cases z))]; exact h, n⟩) (fun a xs h => by rw [upd_ne (ne_of h hl (by intro z; cases z))]; exact h) d v h
end
/-! ### what the top has written -/
structure ExcT (K : PySem.W.Frag) (mg : Str → Option Value) (x : Str) (C : Addr) : Prop where
  g : mg x = some (.ref C)
  x : PySem.W.excIn K C [.type "ValueError", .type "Exception", .type "BaseException", .type "object"] "ValueError.__new__" = true
  k : PySem.W.keepIn K (.ref C) = true
  b : PySem.W.subIn K (.ref C) (.type "BaseException") = some true
  t : PySem.W.typeIn K (.ref C) = some (.type "type")
structure BookT (K : PySem.W.Frag) (mg : Str → Option Value) (C : Addr) : Prop where
  cl : Cls K C
  n1 : NoAttr K C "_names"
  n2 : NoAttr K C "_kids"
  g : mg "Book" = some (.ref C)
section
variable {K : PySem.W.Frag} {M : Addr → Prop} {H H' : Hp} {σ : L2.St} {te : TE} {P : PyData → Prop} {D : Ends} {tz : TS} {i : Nat} {f : Str}
theorem q_fldP (h : EvP K M te σ H P) (k : ∀ v d H1, Ex H H1 → Dt K M H1 v d → P d → ∃ p C dx fs, σ[i]? = some (some (.ref p)) ∧ H1 p = some (.ins C dx fs) ∧ Cls K C ∧ NoAttr K C f ∧ fs.length < 1000 ∧ tz D σ (upd H1 p (.ins C dx (putF f v fs)))) :
    tSeq (sFld K (tVar i) te f) tz D σ H := h.use fun v d H1 e dv pd => by
  obtain ⟨p, C, dx, fs, h1, h2, h3, h4, h5, h6⟩ := k v d H1 e dv pd
  exact ⟨_, h1, p, C, dx, fs, rfl, h2, h3, h4, h5, h6⟩
theorem s_fldP (h : EvP K M te σ H P) (k : ∀ v d H1, Ex H H1 → Dt K M H1 v d → P d → ∃ p C dx fs, σ[i]? = some (some (.ref p)) ∧ H1 p = some (.ins C dx fs) ∧ Cls K C ∧ NoAttr K C f ∧ fs.length < 1000 ∧ D.nx σ (upd H1 p (.ins C dx (putF f v fs)))) :
    sFld K (tVar i) te f D σ H := h.use fun v d H1 e dv pd => by
  obtain ⟨p, C, dx, fs, h1, h2, h3, h4, h5, h6⟩ := k v d H1 e dv pd
  exact ⟨_, h1, p, C, dx, fs, rfl, h2, h3, h4, h5, h6⟩
end
/-- Book(signs) -/
def spInit (K : PySem.W.Frag) (C CN : Addr) : Sp := fun vs H Q E => ∃ (M : Addr → Prop) (p dx : Addr) (v : V) (S : List Sg), Ok M H ∧ vs = [.ref p, v] ∧ H p = some (.ins C dx []) ∧ Dt K M H v (.list (S.map sgD)) ∧ S.length ≤ 100 ∧ (∀ q ∈ S, q.1.length ≤ 100000) ∧
  (validB S = true → ∀ H', BookAt C M H' p S → (∀ b o, H b = some o → b ≠ p → H' b = some o) → Q .non H') ∧ (validB S = false → ∀ H', Ex H H' → E (.ref CN) none H')
section
variable {P : Program} {w : World} {K : PySem.W.Frag} {mg : Str → Option Value} {base : Heap}
theorem scInit : FnScope ["self", "signs", "sign"] ["self", "signs"] (defScope sInit) := ⟨rfl, rfl, rfl, by decide +kernel, rfl, by decide +kernel, by decide +kernel⟩
theorem ok_init {f fN fS fA C CN : Addr} {fd fdN fdS fdA : FuncData} (F : Fun K "__init__" "Book.__init__" sInit f fd) (G : GlobS mg) (T : BookT K mg C) (TN : ExcT K mg "NoBook" CN)
    (FN : Fun K "is_name" "is_name" sName fN fdN) (mN : mg "is_name" = some (.ref fN)) (bN : Binds K fdN ["name", "longest"] [])
    (FS : Fun K "is_sign" "is_sign" sSign fS fdS) (mS : mg "is_sign" = some (.ref fS)) (bS : Binds K fdS ["sign"] [])
    (FA : Fun K "are_signs" "are_signs" sAre fA fdA) (mA : mg "are_signs" = some (.ref fA)) (bA : Binds K fdA ["signs"] []) :
    FnOk P w K mg base (L2.CX P w) 4 f fd ["self", "signs"] (spInit K C CN) := by
  have GA : FnOk P w K mg base CX0 3 fA fdA ["signs"] (spD K areA fun ds d => d = areF ds) := ok_are FA G FN mN bN FS mS bS
  refine F.okX scInit (fun vs H Q E h => ?_) (fun cdv A outer s H vs Q E hr h => ?_)
  · obtain ⟨M, p, dx, v, S, _, rfl, _⟩ := h
    rfl
  · obtain ⟨M, p, dx, v, S, ok, rfl, hp, hv, hlen, hz, qy, qn⟩ := h
    refine ⟨_, pss_cons (ps_if (pt_not (pt_val (pe_call GA hr rfl mA FA.kp bA .nil pass0 (pa_cons (pv 1) pa_nil)))) (pss_one (ps_raise rfl (takes_of rfl rfl rfl rfl) (pmk_own PySem.F.excBase_ValueError TN.x TN.g TN.k (raises_own TN.b TN.t) rfl))) pss_nil)
      (pss_cons (ps_fld (pv 0) (pe_lc (own := [("sign", 2)]) (g := gName 2) (tt := tYes) rfl scInit.nd (pi_list (pv 1)) (blkOk_by (N := ["self", "signs", "sign"]) (sc := defScope sInit) (by decide +kernel)) (fun _ _ _ _ _ => pg_name (i := 2) scInit.nd rfl (.inl rfl)) (fun _ _ _ _ _ => pts_nil)
          (fun _ _ _ _ _ => pe_ix (ix_tupK (K := K) rfl) (pv 2) pe_int (fun _ _ => rfl))) rfl)
      (pss_one (ps_fld (pv 0) (pe_lc (own := [("sign", 2)]) (g := gName 2) (tt := tYes) rfl scInit.nd (pi_list (pv 1)) (blkOk_by (N := ["self", "signs", "sign"]) (sc := defScope sInit) (by decide +kernel)) (fun _ _ _ _ _ => pg_name (i := 2) scInit.nd rfl (.inl rfl)) (fun _ _ _ _ _ => pts_nil)
          (fun _ _ _ _ _ => pe_ix (ix_tupK (K := K) rfl) (pv 2) pe_int (fun _ _ => rfl))) rfl))), ?_⟩
    have hlen' : (S.map sgD).length < sizeLine := by rw [List.length_map]; exact Nat.lt_of_le_of_lt hlen (by decide)
    have mem : ∀ d ∈ S.map sgD, ∃ p ∈ S, d = sgD p := fun d hd => by
      obtain ⟨p, hp, e⟩ := List.mem_map.mp hd
      exact ⟨p, hp, e.symm⟩
    refine q_when (evt_not (evt_B (K := K) (M := M) ((evd_call (F := areF) ok (eva_cons (evd_var rfl hv) eva_nil) ⟨S, rfl, hlen, hz⟩).mono fun d h => h.trans (areF_eq S)))) (fun hb H1 e1 => ?_) (fun hb H1 e1 => ?_)
    · rw [Bool.not_eq_true'] at hb
      exact qn hb H1 e1
    rw [Bool.not_eq_false'] at hb
    have ok1 := ok.ex e1
    refine q_fldP (K := K) (M := M) (P := (· = .list (S.map fun q => PyData.str q.1))) ?_ fun v1 d1 H2 e2 dv1 pd1 => ⟨p, C, dx, [], rfl, (e1.trans e2) _ _ hp, T.cl, T.n1, by decide, ?_⟩
    · refine (evd_lcL (fun _ => true) (fun d => .str (sgU d).1) ok1 (evd_var rfl (hv.ex e1)) hlen' fun M' d x H' hm ok' hd e dx Qg qg => ?_).mono fun d h => ?_
      · obtain ⟨p, hp, rfl⟩ := mem d hd
        exact qg _ H' (Ex.refl _) ⟨rfl, evt_yes, fun _ => evd_ixT (j := 0) (evd_var rfl dx) evd_int rfl rfl⟩
      · rw [h, filter_yes, List.map_map]
        rfl
    subst pd1
    cases dv1 with
    | lst g1 g2 g3 =>
    rename_i l1 xs1
    have g3 : xs1 = S.map fun q => V.str q.1 := by
      have := Dts.strs (S.map fun q => q.1) (by rw [List.map_map]; exact g3)
      rw [this, List.map_map]
      rfl
    subst g3
    have hp2 : H2 p = some (.ins C dx []) := (e1.trans e2) _ _ hp
    have hv3 := ((hv.ex (e1.trans e2)).updI (o := .ins C dx (putF "_names" (.ref l1) [])) hp2)
    have ok3 : Ok M (upd H2 p (.ins C dx (putF "_names" (.ref l1) []))) := fun l m => by
      by_cases e : l = p
      · rw [e, upd_same]
        simp
      · rw [upd_ne e]
        exact ok1.ex e2 l m
    refine s_fldP (K := K) (M := M) (P := (· = .list (S.map fun q => PyData.int q.2))) ?_ fun v2 d2 H3 e3 dv2 pd2 => ⟨p, C, dx, _, rfl, e3 _ _ upd_same, T.cl, T.n2, (by show 1 < 1000; decide), ?_⟩
    · refine (evd_lcL (fun _ => true) (fun d => .int (sgU d).2) ok3 (evd_var rfl hv3) hlen' fun M' d x H' hm ok' hd e dx Qg qg => ?_).mono fun d h => ?_
      · obtain ⟨p, hp, rfl⟩ := mem d hd
        exact qg _ H' (Ex.refl _) ⟨rfl, evt_yes, fun _ => evd_ixT (j := 1) (evd_var rfl dx) evd_int rfl rfl⟩
      · rw [h, filter_yes, List.map_map]
        rfl
    subst pd2
    cases dv2 with
    | lst k1 k2 k3 =>
    rename_i l2 xs2
    have k3 : xs2 = S.map fun q => V.int q.2 := by
      have := Dts.ints (S.map fun q => q.2) (by rw [List.map_map]; exact k3)
      rw [this, List.map_map]
      rfl
    subst k3
    have hp3 : H3 p = some (.ins C dx (putF "_names" (.ref l1) [])) := e3 _ _ upd_same
    have n1 : l1 ≠ p := ne_of g1 hp2 (by intro z; cases z)
    have n2 : l2 ≠ p := ne_of k1 hp3 (by intro z; cases z)
    refine qy hb _ ⟨dx, l1, l2, upd_same, ?_, g2, ?_, k2⟩ fun b o hb hbp => ?_
    · rw [upd_ne n1]
      exact e3 _ _ (by rw [upd_ne n1]; exact g1)
    · rw [upd_ne n2]
      exact k1
    · rw [upd_ne hbp]
      exact e3 _ _ (by rw [upd_ne hbp]; exact (e1.trans e2) _ _ hb)
end
end TH
set_option maxRecDepth 100000
set_option maxHeartbeats 4000000
namespace TH
open PySem L2 Evl
/-! ### what a Book tells -/
def numV (S : List Sg) (z : Str) : V := match S.findIdx? (fun q => decide (q.1 = z)) with
  | some j => .int j
  | none => .non
def spMany (C : Addr) : Sp := fun vs H Q _ => ∃ (M : Addr → Prop) (p : Addr) (S : List Sg), vs = [.ref p] ∧ BookAt C M H p S ∧ Q (.int S.length) H
def spNm (C : Addr) : Sp := fun vs H Q _ => ∃ (M : Addr → Prop) (p : Addr) (S : List Sg) (j : Nat) (q : Sg), vs = [.ref p, .int j] ∧ BookAt C M H p S ∧ S[j]? = some q ∧ Q (.str q.1) H
def spHas (C : Addr) : Sp := fun vs H Q _ => ∃ (M : Addr → Prop) (p : Addr) (S : List Sg) (z : Int), vs = [.ref p, .int z] ∧ BookAt C M H p S ∧ ∀ H', Ex H H' → Q (.bl (decide (0 ≤ z) && decide (z < (S.length : Int)))) H'
def spKd (C : Addr) : Sp := fun vs H Q _ => ∃ (M : Addr → Prop) (p : Addr) (S : List Sg) (j : Nat) (q : Sg), vs = [.ref p, .int j] ∧ BookAt C M H p S ∧ S[j]? = some q ∧ Q (.int q.2) H
def spNum (C : Addr) : Sp := fun vs H Q _ => ∃ (M : Addr → Prop) (p : Addr) (S : List Sg) (z : Str), vs = [.ref p, .str z] ∧ BookAt C M H p S ∧ ∀ H', Ex H H' → Q (numV S z) H'
def namesOk (S : List Sg) : Prop := ∀ q ∈ S, PyData.strOk q.1 = true
def spLike (C : Addr) : Sp := fun vs H Q _ => ∃ (M M' : Addr → Prop) (p p' : Addr) (S S' : List Sg), vs = [.ref p, .ref p'] ∧ BookAt C M H p S ∧ BookAt C M' H p' S' ∧ namesOk S ∧ namesOk S' ∧
  Q (.bl (decide (S.map (·.1) = S'.map (·.1)) && decide (S.map (·.2) = S'.map (·.2)))) H
theorem hu64 {A : Around} {k : Nat} (hr : Room k A) : A.units + 64 < cLine := by
  have := hr.un
  omega
theorem eqv_strs : ∀ zs ws : List Str, PyData.eqvAll (zs.map PyData.str) (ws.map PyData.str) = decide (zs = ws)
  | [], [] => by simp [PyData.eqvAll]
  | [], _ :: _ => by simp [PyData.eqvAll]
  | _ :: _, [] => by simp [PyData.eqvAll]
  | z :: zs, w :: ws => by
    rw [List.map_cons, List.map_cons, PyData.eqvAll, eqv_strs zs ws, PyData.eqv]
    by_cases h : z = w <;> by_cases h2 : zs = ws <;> simp [h, h2]
theorem eqv_ints : ∀ zs ws : List Int, PyData.eqvAll (zs.map PyData.int) (ws.map PyData.int) = decide (zs = ws)
  | [], [] => by simp [PyData.eqvAll]
  | [], _ :: _ => by simp [PyData.eqvAll]
  | _ :: _, [] => by simp [PyData.eqvAll]
  | z :: zs, w :: ws => by
    rw [List.map_cons, List.map_cons, PyData.eqvAll, eqv_ints zs ws, PyData.eqv]
    by_cases h : z = w <;> by_cases h2 : zs = ws <;> simp [h, h2]
theorem dpAll_strs {K : PySem.W.Frag} {H : Hp} : ∀ zs : List Str, DpAll K H (zs.map V.str) (zs.map PyData.str)
  | [] => .nil
  | z :: zs => .cons (.str z) (dpAll_strs zs)
theorem dpAll_ints {K : PySem.W.Frag} {H : Hp} : ∀ zs : List Int, DpAll K H (zs.map V.int) (zs.map PyData.int)
  | [] => .nil
  | z :: zs => .cons (.int z) (dpAll_ints zs)
theorem lay_strs : ∀ zs : List Str, (∀ z ∈ zs, PyData.strOk z = true) → PyData.canLayAll0 (zs.map PyData.str) = true
  | [], _ => rfl
  | z :: zs, h => by
    rw [List.map_cons, PyData.canLayAll0, PyData.canLay0, h z List.mem_cons_self, lay_strs zs fun y hy => h y (List.mem_cons_of_mem _ hy)]
    rfl
theorem lay_ints : ∀ zs : List Int, PyData.canLayAll0 (zs.map PyData.int) = true
  | [] => rfl
  | z :: zs => by
    rw [List.map_cons, PyData.canLayAll0, PyData.canLay0, lay_ints zs]
    rfl
theorem depth_strs : ∀ zs : List Str, PyData.depthAll (zs.map PyData.str) = 0
  | [] => rfl
  | z :: zs => by rw [List.map_cons, PyData.depthAll, PyData.depth, depth_strs zs]; rfl
theorem depth_ints : ∀ zs : List Int, PyData.depthAll (zs.map PyData.int) = 0
  | [] => rfl
  | z :: zs => by rw [List.map_cons, PyData.depthAll, PyData.depth, depth_ints zs]; rfl
theorem shaped_strs (zs : List Str) (h : ∀ z ∈ zs, PyData.strOk z = true) : SeqAt.shaped (.list (zs.map PyData.str)) = true := by
  unfold SeqAt.shaped
  rw [PyData.canLay0, lay_strs zs h, PyData.depth, depth_strs]
  rfl
theorem shaped_ints (zs : List Int) : SeqAt.shaped (.list (zs.map PyData.int)) = true := by
  unfold SeqAt.shaped
  rw [PyData.canLay0, lay_ints zs, PyData.depth, depth_ints]
  rfl
section
variable {P : Program} {w : World} {K : PySem.W.Frag} {mg : Str → Option Value} {base : Heap}
theorem scMany : FnScope ["self"] ["self"] (defScope sMany) := ⟨rfl, rfl, rfl, by decide +kernel, rfl, by decide +kernel, by decide +kernel⟩
theorem ok_many {f C : Addr} {fd : FuncData} (F : Fun K "many" "Book.many" sMany f fd) (G : GlobS mg) (T : BookT K mg C) : FnOk P w K mg base CX0 1 f fd ["self"] (spMany C) := by
  refine F.ok scMany (fun vs H Q E h => ?_) (fun cdv A outer s H vs Q E hr h => ?_)
  · obtain ⟨M, p, S, rfl, _⟩ := h
    rfl
  · obtain ⟨M, p, S, rfl, ⟨dx, l1, l2, h1, h2, h3, h4, h5⟩, q⟩ := h
    refine ⟨_, pss_one (ps_ret (pe_callB call_len_seq (by rfl) G.len PySem.boot_len (pa_cons (pe_fld (pv 0) rfl) pa_nil))), ?_⟩
    refine ⟨_, rfl, p, C, dx, _, _, rfl, h1, T.cl, T.n1, flds_names _ _, _, _, rfl, .inl (SqL.of h2), ?_⟩
    rw [List.length_map]
    exact q
theorem scHas : FnScope ["self", "sign"] ["self", "sign"] (defScope sHas) := ⟨rfl, rfl, rfl, by decide +kernel, rfl, by decide +kernel, by decide +kernel⟩
theorem ok_has {f C : Addr} {fd : FuncData} (F : Fun K "has" "Book.has" sHas f fd) (G : GlobS mg) (T : BookT K mg C) : FnOk P w K mg base CX0 1 f fd ["self", "sign"] (spHas C) := by
  refine F.ok scHas (fun vs H Q E h => ?_) (fun cdv A outer s H vs Q E hr h => ?_)
  · obtain ⟨M, p, S, z, rfl, _⟩ := h
    rfl
  · obtain ⟨M, p, S, z, rfl, ⟨dx, l1, l2, h1, h2, h3, h4, h5⟩, q⟩ := h
    refine ⟨_, pss_one (ps_ret (pe_chain op_le op_lt pe_int (pv 1) (pe_callB call_len_seq (by rfl) G.len PySem.boot_len (pa_cons (pe_fld (pv 0) rfl) pa_nil)))), ?_⟩
    refine s_retP (K := K) (M := M) (evd_chainI (j := z) (k := S.length) (g := fun i j => decide (i ≤ j)) (g' := fun i j => decide (i < j)) evd_int (evd_var rfl (.int z)) fun H1 e Q q => ?_) fun v d H2 e2 dv pd => ?_
    · refine ⟨_, rfl, p, C, dx, _, _, rfl, e _ _ h1, T.cl, T.n1, flds_names _ _, _, _, rfl, .inl (SqL.of (e _ _ h2)), ?_⟩
      rw [List.length_map]
      exact q _ _ H1 (Ex.refl _) (.int _) rfl
    · subst pd
      cases dv
      exact q H2 e2
theorem scNm : FnScope ["self", "sign"] ["self", "sign"] (defScope sNm) := ⟨rfl, rfl, rfl, by decide +kernel, rfl, by decide +kernel, by decide +kernel⟩
theorem ok_nm {f C : Addr} {fd : FuncData} (F : Fun K "name" "Book.name" sNm f fd) (T : BookT K mg C) : FnOk P w K mg base CX0 1 f fd ["self", "sign"] (spNm C) := by
  refine F.ok scNm (fun vs H Q E h => ?_) (fun cdv A outer s H vs Q E hr h => ?_)
  · obtain ⟨M, p, S, j, q, rfl, _⟩ := h
    rfl
  · obtain ⟨M, p, S, j, q, rfl, ⟨dx, l1, l2, h1, h2, h3, h4, h5⟩, hj, k⟩ := h
    refine ⟨_, pss_one (ps_ret (pe_ix ix_list (pe_fld (pv 0) rfl) (pv 1) (fun _ _ => rfl))), ?_⟩
    exact ⟨_, rfl, p, C, dx, _, _, rfl, h1, T.cl, T.n1, flds_names _ _, _, rfl, _, _, _, _, rfl, rfl, SqL.of h2, atI_nat (by rw [List.getElem?_map, hj]; rfl), k⟩
theorem scKd : FnScope ["self", "sign"] ["self", "sign"] (defScope sKd) := ⟨rfl, rfl, rfl, by decide +kernel, rfl, by decide +kernel, by decide +kernel⟩
theorem ok_kd {f C : Addr} {fd : FuncData} (F : Fun K "kids" "Book.kids" sKd f fd) (T : BookT K mg C) : FnOk P w K mg base CX0 1 f fd ["self", "sign"] (spKd C) := by
  refine F.ok scKd (fun vs H Q E h => ?_) (fun cdv A outer s H vs Q E hr h => ?_)
  · obtain ⟨M, p, S, j, q, rfl, _⟩ := h
    rfl
  · obtain ⟨M, p, S, j, q, rfl, ⟨dx, l1, l2, h1, h2, h3, h4, h5⟩, hj, k⟩ := h
    refine ⟨_, pss_one (ps_ret (pe_ix ix_list (pe_fld (pv 0) rfl) (pv 1) (fun _ _ => rfl))), ?_⟩
    exact ⟨_, rfl, p, C, dx, _, _, rfl, h1, T.cl, T.n2, flds_kids _ _, _, rfl, _, _, _, _, rfl, rfl, SqL.of h4, atI_nat (by rw [List.getElem?_map, hj]; rfl), k⟩
end
end TH
set_option maxRecDepth 100000
set_option maxHeartbeats 4000000
namespace TH
open PySem L2 Evl
section
variable {X : Cx} {K : PySem.W.Frag}
theorem pg_tupK {es : List Expr} {k : Nat} {t : TGs} {n : Nat} {pos : Pos} (hK : X.K = K) (hc : X.calm = true) (h : PGs X es t)
    (hn : (assignEach es X.env).length = n := by rfl) (hst : (assignEach es X.env).findIdx? (·.1) = none := by rfl) : PG X (.Tuple es k pos) (gTup K n t) := by
  subst hK
  exact pg_tup hc h hn hst
end
section
variable {K : PySem.W.Frag} {M : Addr → Prop} {H H1 H' : Hp} {σ : L2.St} {ta tb tc te tl : TE} {P : PyData → Prop}
/-- a draw -/
theorem evp_take {E : XK} {b : Addr} {n : Int} (hb : Ev tb σ H (.ref b)) (hx : H b = some (Box b)) (hn : EvD K M te σ H (.int n)) (n0 : 0 < n) (n1 : n.natAbs < 2 ^ 200) :
    EvP K M (tCall spTake [] E (tCons tb (tCons te tNil))) σ H (fun d => ∃ k : Int, d = .int k ∧ 0 ≤ k ∧ k < n) := fun H1 e Q q =>
  hb H1 e _ fun H2 e2 => hn H2 (e.trans e2) _ fun v d H3 e3 dv pd => by
    subst pd
    cases dv
    exact ⟨b, n, rfl, ((e.trans e2).trans e3) _ _ hx, n0, n1, fun k H4 k0 k1 e4 => q _ _ H4 ((e2.trans e3).trans e4) (.int k) ⟨k, rfl, k0, k1⟩⟩
/-- texts joined -/
theorem txt_join (ys : List Str) : (Txt.join "" ys).cps.toList = (ys.map fun y => y.cps.toList).flatten := by
  rw [TL.join_eq]
  have h : TL.tl (Str.join "" ys) = _ := TL.tl_join "" ys
  have e : TL.tl ("" : Str) = [] := by decide +kernel
  rw [e] at h
  refine h.trans ?_
  clear h
  induction ys with
  | nil => rfl
  | cons y ys ih =>
    cases ys with
    | nil =>
      show TL.tl y = y.cps.toList ++ []
      rw [List.append_nil]
    | cons z zs =>
      show TL.tl y ++ ([] ++ TL.joinL [] ((z :: zs).map TL.tl)) = y.cps.toList ++ _
      rw [ih]
      rfl
theorem evp_join {PY : List Str → Prop} (h : EvP K M te σ H (fun d => ∃ ys : List Str, d = .list (ys.map PyData.str) ∧ PY ys)) (hz : ∀ ys, PY ys → (ys.map (·.length)).sum ≤ 16777216) :
    EvP K M (tM1 (fun x xs H Q => ∃ a p, ∃ ys : List Str, x = .str a ∧ xs = [.ref p] ∧ (SqL K H p (ys.map V.str) ∨ SqT K H p (ys.map V.str)) ∧ (ys.map (·.length)).sum + ys.length * a.length ≤ 16777216 ∧ Q (.str (Txt.join a ys)) H) (tC (.str "")) te) σ H
      (fun d => ∃ ys, PY ys ∧ d = .str (Txt.join "" ys)) := fun H1 e Q q => ⟨⟨_, rfl⟩, h H1 e _ fun v d H2 e2 dv pd => by
    obtain ⟨ys, rfl, py⟩ := pd
    cases dv with
    | lst k1 k2 k3 =>
      have e := k3.strs
      subst e
      refine ⟨_, _, ys, rfl, rfl, .inl (sq_of k1), ?_, q _ _ H2 e2 (.str _) ⟨ys, py, rfl⟩⟩
      have e0 : ("" : Str).length = 0 := by decide +kernel
      rw [e0, Nat.mul_zero, Nat.add_zero]
      exact hz ys py⟩
/-- in, not in a list of texts -/
theorem inV_str (z : Str) (ys : List Str) : inV (.str z) (ys.map V.str) = decide (z ∈ ys) := by
  unfold inV
  rw [List.any_map, Bool.eq_iff_iff]
  simp only [List.any_eq_true, decide_eq_true_eq, Function.comp]
  constructor
  · rintro ⟨y, hy, h⟩
    have : y = z := by
      have h : (y == z) = true := h
      simpa using h
    subst this
    exact hy
  · intro h
    refine ⟨z, h, ?_⟩
    show (z == z) = true
    simp
theorem flat_strs (ys : List Str) : (ys.map V.str).all flatV = true := by
  rw [List.all_map, List.all_eq_true]
  intro y _
  rfl
theorem flat_ints (ys : List Int) : (ys.map V.int).all flatV = true := by
  rw [List.all_map, List.all_eq_true]
  intro y _
  rfl
theorem evd_notInS {z : Str} {ys : List Str} (ha : EvD K M ta σ H (.str z)) (hb : EvD K M tb σ H (.list (ys.map PyData.str))) : EvD K M (tOp (rIn K true) ta tb) σ H (.bool (!decide (z ∈ ys))) :=
  evp_op ha hb fun x y a b H1 e dx dy px py Q q => by
    subst px py
    cases dx
    cases dy with
    | lst k1 k2 k3 =>
      have e := k3.strs
      subst e
      refine ⟨_, _, rfl, .inl (sq_of k1), rfl, flat_strs ys, ?_⟩
      rw [inV_str]
      exact q _ _ H1 (Ex.refl _) (.bl _) rfl
theorem inV_int (z : Int) (ys : List Int) : inV (.int z) (ys.map V.int) = decide (z ∈ ys) := by
  unfold inV
  rw [List.any_map, Bool.eq_iff_iff]
  simp only [List.any_eq_true, decide_eq_true_eq, Function.comp]
  constructor
  · rintro ⟨y, hy, h⟩
    have : y = z := by
      have h : (y == z) = true := h
      simpa using h
    subst this
    exact hy
  · intro h
    refine ⟨z, h, ?_⟩
    show (z == z) = true
    simp
theorem evd_inI {z : Int} {ys : List Int} (ha : EvD K M ta σ H (.int z)) (hb : EvD K M tb σ H (.list (ys.map PyData.int))) : EvD K M (tOp (rIn K false) ta tb) σ H (.bool (decide (z ∈ ys))) :=
  evp_op ha hb fun x y a b H1 e dx dy px py Q q => by
    subst px py
    cases dx
    cases dy with
    | lst k1 k2 k3 =>
      have e := k3.ints
      subst e
      refine ⟨_, _, rfl, .inl (sq_of k1), rfl, flat_ints ys, ?_⟩
      rw [inV_int]
      exact q _ _ H1 (Ex.refl _) (.bl _) rfl
/-- min of a list of ints -/
theorem evp_min {ta : TA} {ns : List Int} (h : EvDA K M ta σ H [.list (ns.map PyData.int)]) (hn : 0 < ns.length) : EvP K M (tCB (rMin K) ta) σ H (fun d => ∃ m, d = .int m ∧ m ∈ ns ∧ ∀ y ∈ ns, m ≤ y) :=
  evp_cb h fun vs ds H1 e dv pd Q q => by
    subst pd
    cases dv with
    | cons h1 h2 =>
      cases h2
      cases h1 with
      | lst k1 k2 k3 =>
        have e := k3.ints
        subst e
        exact ⟨_, ns, rfl, sq_of k1, hn, fun m hm hl => q _ _ H1 (Ex.refl _) (.int m) ⟨m, rfl, hm, hl⟩⟩
/-- an int in a comparison, where the left one is not fixed -/
theorem evp_cmp {g : Int → Int → Bool} {PA PB : PyData → Prop} (ha : EvP K M ta σ H PA) (hb : EvP K M tb σ H PB) (hi : ∀ a, PA a → ∃ i, a = .int i) (hj : ∀ a, PB a → ∃ i, a = .int i) :
    EvP K M (tOp (rI0 fun i j => .bl (g i j)) ta tb) σ H (fun d => ∃ i j, PA (.int i) ∧ PB (.int j) ∧ d = .bool (g i j)) :=
  evp_I0 ha hb fun a b pa pb => by
    obtain ⟨i, rfl⟩ := hi a pa
    obtain ⟨j, rfl⟩ := hj b pb
    exact ⟨i, j, rfl, rfl, _, ⟨i, j, pa, pb, rfl⟩, fun _ => .bl _⟩
/-- a test that is one or the other -/
theorem EvP.test {D : Ends} {tu tw : TS} {tz : TS} {PB : Bool → Prop} (h : EvP K M te σ H (fun d => ∃ b, d = .bool b ∧ PB b)) (k : ∀ b H1, Ex H H1 → PB b → if b = true then tu { D with nx := tz D } σ H1 else tw { D with nx := tz D } σ H1) : tSeq (tIfS (tTest te) tu tw) tz D σ H :=
  h.use fun v d H1 e dv pd => by
    obtain ⟨b, rfl, pb⟩ := pd
    cases dv
    exact ⟨b, rfl, k b H1 e pb⟩
end
theorem EvPA.mono {K : PySem.W.Frag} {M : Addr → Prop} {ta : TA} {σ : L2.St} {H : Hp} {P Q : List PyData → Prop} (h : EvPA K M ta σ H P) (k : ∀ d, P d → Q d) : EvPA K M ta σ H Q := fun H1 e R q => h H1 e R fun v d H2 e2 hd hp => q v d H2 e2 hd (k d hp)
/-- nothing changes -/
abbrev MF : Addr → Prop := fun _ => False
theorem okF {H : Hp} : Ok MF H := fun _ h => h.elim
section
variable {K : PySem.W.Frag} {M : Addr → Prop} {H H' : Hp} {σ : L2.St} {te : TE} {P : PyData → Prop} {D : Ends} {tz : TS} {i i' : Nat} {l : Addr} {xs : List V}
/-- l.append(e) -/
theorem s_appP (hl : H l = some (.lst xs)) (hs : σ[i]? = some (some (.ref l))) (h : EvP K M te σ H P) (hz : xs.length < sizeLine) (k : ∀ v d H1, Ex H H1 → Dt K M H1 v d → P d → D.nx σ (upd H1 l (.lst (xs ++ [v])))) :
    tDrop (tBM K "list" rAppend (tVar i) (tCons te tNil)) D σ H :=
  ⟨_, hs, .inl ⟨rfl, _, SqL.of hl⟩, h.use fun v d H1 e dv pd => ⟨l, xs, v, rfl, rfl, e _ _ hl, hz, k v d H1 e dv pd⟩⟩
theorem q_appP (hl : H l = some (.lst xs)) (hs : σ[i]? = some (some (.ref l))) (h : EvP K M te σ H P) (hz : xs.length < sizeLine) (k : ∀ v d H1, Ex H H1 → Dt K M H1 v d → P d → tz D σ (upd H1 l (.lst (xs ++ [v])))) :
    tSeq (tDrop (tBM K "list" rAppend (tVar i) (tCons te tNil))) tz D σ H := s_appP (D := { D with nx := tz D }) hl hs h hz k
/-- l[j] = e -/
theorem s_setP {j : Nat} (hl : H l = some (.lst xs)) (hs : σ[i]? = some (some (.ref l))) (hj : σ[i']? = some (some (.int (j : Int)))) (hz : j < xs.length) (h : EvP K M te σ H P) (k : ∀ v d H1, Ex H H1 → Dt K M H1 v d → P d → D.nx σ (upd H1 l (.lst (xs.set j v)))) :
    tAsg te (gSub (tVar i) (tVar i') rSetL) D σ H := h.use fun v d H1 e dv pd => ⟨_, hs, _, hj, l, xs, j, j, rfl, rfl, e _ _ hl, ixN_nat hz, k v d H1 e dv pd⟩
end
/-- nothing but flat tuples and values -/
abbrev MT : Addr → Prop := fun _ => True
theorem Dts.flat {K : PySem.W.Frag} {M : Addr → Prop} {H : Hp} {vs : List V} {ds : List PyData} (h : Dts K MT H vs ds) : Dts K M H vs ds := h.weak fun _ _ => trivial
theorem Dt.flat {K : PySem.W.Frag} {M : Addr → Prop} {H : Hp} {v : V} {d : PyData} (h : Dt K MT H v d) : Dt K M H v d := h.weak fun _ _ => trivial
theorem sgs_flat {K : PySem.W.Frag} {M : Addr → Prop} {H : Hp} : ∀ {S : List Sg} {vs : List V}, Dts K M H vs (S.map sgD) → Dts K MT H vs (S.map sgD)
  | [], _, .nil => .nil
  | q :: S, _, .cons h t => by
    refine .cons ?_ (sgs_flat t)
    cases h with
    | tup h1 h2 =>
      cases h2 with
      | cons r1 r2 =>
        cases r1
        cases r2 with
        | cons r3 r4 =>
          cases r3
          cases r4
          exact .tup h1 (.cons (.str _) (.cons (.int _) .nil))
end TH
set_option maxRecDepth 100000
set_option maxHeartbeats 4000000
namespace TH
open PySem L2 Evl
abbrev sSigns : Stmt := top 42
/-! ### good books -/
structure NameOk (z : Str) : Prop where
  lo : 1 ≤ z.length
  hi : z.length ≤ 3
  az : ∀ c ∈ z.cps.toList, 97 ≤ c ∧ c ≤ 122
structure Good0 (S : List Sg) : Prop where
  len : S.length ≤ 6
  name : ∀ q ∈ S, NameOk q.1
  kids : ∀ q ∈ S, 0 ≤ q.2 ∧ q.2 ≤ 2
  nd : (S.map (·.1)).Nodup
structure Good (S : List Sg) : Prop extends Good0 S where
  ne : 1 ≤ S.length
  leaf : ∃ q ∈ S, q.2 = 0
theorem Good0.add {S : List Sg} {z : Str} {k : Int} (h : Good0 S) (hl : S.length < 6) (hz : NameOk z) (hk : 0 ≤ k ∧ k ≤ 2) (hn : z ∉ S.map (·.1)) : Good0 (S ++ [(z, k)]) := by
  refine ⟨by rw [List.length_append]; exact hl, fun q hq => ?_, fun q hq => ?_, ?_⟩
  · rcases List.mem_append.mp hq with hq | hq
    · exact h.name q hq
    · rw [List.mem_singleton.mp hq]
      exact hz
  · rcases List.mem_append.mp hq with hq | hq
    · exact h.kids q hq
    · rw [List.mem_singleton.mp hq]
      exact hk
  · rw [List.map_append, List.nodup_append]
    refine ⟨h.nd, by simp, fun a ha b hb => ?_⟩
    have : b = z := by simpa using hb
    rw [this]
    intro e
    rw [e] at ha
    exact hn ha
theorem Good0.zero {S : List Sg} {j : Nat} {q : Sg} (h : Good0 S) (hj : S[j]? = some q) : Good (S.set j (q.1, 0)) := by
  obtain ⟨hlt, rfl⟩ := List.getElem?_eq_some_iff.mp hj
  have hm : ∀ r ∈ S.set j (S[j].1, 0), r ∈ S ∨ r = (S[j].1, 0) := fun r hr => List.mem_or_eq_of_mem_set hr
  have em : (S.set j (S[j].1, 0)).map (·.1) = S.map (·.1) := by
    rw [List.map_set]
    exact List.set_getElem_self (as := S.map (·.1)) (by rw [List.length_map]; exact hlt) |> fun h => by rw [List.getElem_map] at h; exact h
  refine ⟨⟨by rw [List.length_set]; exact h.len, fun r hr => ?_, fun r hr => ?_, by rw [em]; exact h.nd⟩, by rw [List.length_set]; omega, (S[j].1, 0), ?_, rfl⟩
  · rcases hm r hr with hr | rfl
    · exact h.name r hr
    · exact h.name S[j] (List.getElem_mem hlt)
  · rcases hm r hr with hr | rfl
    · exact h.kids r hr
    · exact ⟨Int.le_refl _, (by show (0 : Int) ≤ 2; decide)⟩
  · exact List.mem_of_getElem? (i := j) (by rw [List.getElem?_set_self hlt])
/-- _law_signs -/
def spSigns (K : PySem.W.Frag) : Sp := fun vs H Q _ => ∃ b : Addr, vs = [.ref b] ∧ H b = some (Box b) ∧
  ∀ l xs S H', Good S → Ex H H' → H l = none → H' l = some (.lst xs) → Dts K MT H' xs (S.map sgD) → Q (.ref l) H'
structure GlobL (mg : Str → Option Value) : Prop extends GlobS mg where
  min : mg "min" = none
/-- one of the letters -/
theorem letter_at {k : Int} (h0 : 0 ≤ k) (h1 : k < 26) : ∃ c, atI ("abcdefghijklmnopqrstuvwxyz" : Str).cps.toList k = some c ∧ 97 ≤ c ∧ c ≤ 122 := by
  obtain ⟨j, rfl⟩ := Int.eq_ofNat_of_zero_le h0
  have hall : ∀ j : _root_.Fin 26, ∃ c, ("abcdefghijklmnopqrstuvwxyz" : Str).cps.toList[j.val]? = some c ∧ 97 ≤ c ∧ c ≤ 122 := by
    intro j
    have e : ("abcdefghijklmnopqrstuvwxyz" : Str).cps.toList = List.range' 97 26 := by decide +kernel
    rw [e, List.getElem?_range' (by exact j.isLt)]
    exact ⟨_, rfl, by omega, by have := j.isLt; omega⟩
  obtain ⟨c, hc, h⟩ := hall ⟨j, by omega⟩
  exact ⟨c, atI_nat hc, h⟩
theorem letters_len : ("abcdefghijklmnopqrstuvwxyz" : Str).length ≤ sizeLine := by
  have e : ("abcdefghijklmnopqrstuvwxyz" : Str).length = 26 := by decide +kernel
  rw [e]
  decide
theorem ones_name {ys : List Str} (h : ∀ y ∈ ys, ∃ c : Nat, y = ⟨#[c]⟩ ∧ 97 ≤ c ∧ c ≤ 122) (h1 : 1 ≤ ys.length) (h3 : ys.length ≤ 3) : NameOk (Txt.join "" ys) := by
  have e := txt_join ys
  have hl : (Txt.join "" ys).length = ys.length := by
    show (Txt.join "" ys).cps.size = _
    rw [← Array.length_toList, e]
    clear e h1 h3
    induction ys with
    | nil => rfl
    | cons y ys ih =>
      obtain ⟨c, rfl, _⟩ := h y List.mem_cons_self
      rw [List.map_cons, List.flatten_cons, List.length_append, ih fun z hz => h z (List.mem_cons_of_mem _ hz)]
      show 1 + ys.length = ys.length + 1
      omega
  refine ⟨by rw [hl]; exact h1, by rw [hl]; exact h3, fun c hc => ?_⟩
  rw [e] at hc
  obtain ⟨l, hl, hc⟩ := List.mem_flatten.mp hc
  obtain ⟨y, hy, rfl⟩ := List.mem_map.mp hl
  obtain ⟨d, rfl, hd⟩ := h y hy
  have : c = d := by simpa using hc
  rw [this]
  exact hd
section
variable {P : Program} {w : World} {K : PySem.W.Frag} {mg : Str → Option Value} {base : Heap}
abbrev nSigns : List Str := ["_law_box_here", "_law_letters", "_law_found", "_law_turn", "_law_name", "_law_spot", "_law_letter", "_law_one", "_law_kids"]
theorem scSigns : FnScope nSigns ["_law_box_here"] (defScope sSigns) := ⟨rfl, rfl, rfl, by decide +kernel, rfl, by decide +kernel, by decide +kernel⟩
theorem ok_signs {f fT : Addr} {fd fdT : FuncData} (F : Fun K "_law_signs" "_law_signs" sSigns f fd) (G : GlobL mg)
    (GT : FnOk P w K mg base CX0 2 fT fdT ["_law_box_here", "_law_count"] spTake) (FT : PySem.W.keepIn K (.ref fT) = true) (mT : mg "_law_take" = some (.ref fT)) (bT : Binds K fdT ["_law_box_here", "_law_count"] []) :
    FnOk P w K mg base CX0 3 f fd ["_law_box_here"] (spSigns K) := by
  refine F.ok scSigns (fun vs H Q E h => ?_) (fun cdv A outer s H vs Q E hr h => ?_)
  · obtain ⟨b, rfl, _⟩ := h
    rfl
  · obtain ⟨b, rfl, hb, q⟩ := h
    refine ⟨_, pss_cons (ps_asg (pe_tup (pa_cons pe_str (pa_cons (pe_lst pa_nil) pa_nil))) (pg_tup rfl (pgs_cons (pg_name (i := 1) scSigns.nd rfl (.inr rfl)) (pgs_cons (pg_name (i := 2) scSigns.nd rfl (.inl rfl)) pgs_nil))))
      (pss_cons (ps_for PassesOwn.never rfl (pi_range1 rfl G.range (pa_cons (pe_op op_add pe_int (pe_call GT hr rfl mT FT bT .nil pass0 (pa_cons (pv 0) (pa_cons pe_int pa_nil)))) pa_nil)) (pg_name (i := 3) scSigns.nd rfl (.inl rfl))
        (pss_cons (ps_set (i := 4) scSigns.nd rfl (.inl rfl) (pe_join pe_str (pe_lc (own := [("_law_letter", 6)]) (g := gName 6) (tt := tYes) rfl scSigns.nd
            (pi_range1 rfl G.range (pa_cons (pe_op op_add pe_int (pe_call GT hr rfl mT FT bT .nil pass0 (pa_cons (pv 0) (pa_cons pe_int pa_nil)))) pa_nil))
            (blkOk_by (N := nSigns) (sc := defScope sSigns) (by decide +kernel)) (fun _ _ _ _ _ => pg_name (i := 6) scSigns.nd rfl (.inl rfl)) (fun _ _ _ _ _ => pts_nil)
            (fun _ _ _ _ _ => pe_ix ix_str (pv 1) (pe_call GT hr rfl mT FT bT .nil pass0 (pa_cons (pv 0) (pa_cons pe_int pa_nil))) (fun _ _ => rfl)))))
        (pss_one (ps_if (pt_cmpR op_notIn_seq (pv 4) (pe_lc (own := [("_law_one", 7), ("_law_kids", 8)]) (tt := tYes) rfl scSigns.nd (pi_list (pv 2))
            (blkOk_by (N := nSigns) (sc := defScope sSigns) (by decide +kernel)) (fun _ _ _ _ _ => pg_tupK (K := K) (n := 2) rfl rfl (pgs_cons (pg_name (i := 7) scSigns.nd rfl (.inl rfl)) (pgs_cons (pg_name (i := 8) scSigns.nd rfl (.inl rfl)) pgs_nil))) (fun _ _ _ _ _ => pts_nil)
            (fun _ _ _ _ _ => pv 7)) (by rfl))
          (pss_one (ps_expr (pe_bm PySem.F.plainAttrs_list PySem.F.slot_list_append PySem.F.type_list_append mt_append (pv 2) (pa_cons (pe_tup (pa_cons (pv 4) (pa_cons (pe_call GT hr rfl mT FT bT .nil pass0 (pa_cons (pv 0) (pa_cons pe_int pa_nil))) pa_nil))) pa_nil)))) pss_nil))))
      (pss_cons (ps_set (i := 5) scSigns.nd rfl (.inl rfl) (pe_call GT hr rfl mT FT bT .nil pass0 (pa_cons (pv 0) (pa_cons (pe_callB call_len_seq (by rfl) G.len PySem.boot_len (pa_cons (pv 2) pa_nil)) pa_nil))))
      (pss_cons (ps_if (pt_cmpR op_gt (pe_callB (cr_min rfl) (by rfl) G.min (by decide +kernel) (pa_cons (pe_lc (own := [("_law_name", 4), ("_law_kids", 8)]) (tt := tYes) rfl scSigns.nd (pi_list (pv 2))
            (blkOk_by (N := nSigns) (sc := defScope sSigns) (by decide +kernel)) (fun _ _ _ _ _ => pg_tupK (K := K) (n := 2) rfl rfl (pgs_cons (pg_name (i := 4) scSigns.nd rfl (.inl rfl)) (pgs_cons (pg_name (i := 8) scSigns.nd rfl (.inl rfl)) pgs_nil))) (fun _ _ _ _ _ => pts_nil)
            (fun _ _ _ _ _ => pv 8)) pa_nil)) pe_int (nomark _))
          (pss_one (ps_asg (pe_tup (pa_cons (pe_ix ix_tup (pe_ix ix_list (pv 2) (pv 5) (fun _ _ => rfl)) pe_int (fun _ _ => rfl)) (pa_cons pe_int pa_nil))) (pg_sub (pv 2) (pv 5) set_list))) pss_nil)
      (pss_one (ps_ret (pv 2)))))), ?_⟩
    refine ⟨by decide, fun l hl => ⟨by show 2 ≤ sizeLine; decide, fun t ht => ⟨t, _, rfl, SqT.of upd_same, rfl, _, _, rfl, _, _, rfl, rfl, ?_⟩⟩⟩
    have e0 : Ex H (upd H l (.lst [])) := Ex.new hl
    have e1 : Ex H (upd (upd H l (.lst [])) t (.tup [.str "abcdefghijklmnopqrstuvwxyz", .ref l])) := e0.trans (Ex.new ht)
    have hl1 : (upd (upd H l (.lst [])) t (.tup [.str "abcdefghijklmnopqrstuvwxyz", .ref l])) l = some (.lst []) := by
      rw [upd_ne (ne_of_none upd_same ht)]
      exact upd_same
    generalize hG1 : upd (upd H l (.lst [])) t (.tup [.str "abcdefghijklmnopqrstuvwxyz", .ref l]) = H1 at e1 hl1
    -- for turn in range(1 + take(box, 6))
    refine ⟨_, rfl, b, 6, rfl, e1 _ _ hb, by decide, by decide, fun d6 H2 d60 d61 e2 => ⟨_, _, rfl, rfl, _, rfl, by omega, by omega, ?_⟩⟩
    refine for_range (lo := 0) (n := (1 + d6).toNat) (fun i σ' H' => Ex H H' ∧ ∃ xs S u v, σ' = [some (.ref b), some (.str "abcdefghijklmnopqrstuvwxyz"), some (.ref l), u, v, none, none, none, none] ∧ H' l = some (.lst xs) ∧ Dts K MT H' xs (S.map sgD) ∧ Good0 S ∧ S.length ≤ i ∧ (0 < i → 1 ≤ S.length))
      ⟨e1.trans e2, [], [], none, none, rfl, e2 _ _ hl1, .nil, ⟨by decide, fun _ h => (nomatch h), fun _ h => (nomatch h), List.nodup_nil⟩, Nat.le_refl _, fun h => absurd h (Nat.lt_irrefl _)⟩ ?_ ?_
    · rintro i σ' H3 hi ⟨e3, xs, S, u, v, rfl, hl3, dS, gS, lS, nS⟩
      have hb3 := e3 _ _ hb
      have hi6 : i < 6 := by omega
      -- the name
      refine q_asgP (K := K) (M := MF) (P := fun d => ∃ z, d = .str z ∧ NameOk z) ?_ fun vz dz H4 e4 dvz hz => ?_
      · refine (evp_join (PY := fun ys => (∀ y ∈ ys, ∃ c : Nat, y = ⟨#[c]⟩ ∧ 97 ≤ c ∧ c ≤ 122) ∧ 1 ≤ ys.length ∧ ys.length ≤ 3) ?_ fun ys hy => ?_).mono fun d ⟨ys, hy, e⟩ => ⟨_, e, ones_name hy.1 hy.2.1 hy.2.2⟩
        · refine (evp_lcR (PN := fun n => 1 ≤ n ∧ n ≤ 3) (fun _ => true) (fun _ d => ∃ c : Nat, d = .str ⟨#[c]⟩ ∧ 97 ≤ c ∧ c ≤ 122) okF ?_ (fun n hn => by omega) fun M' n j H' hm ok' pn hj e Qg qg => ?_).mono ?_
          · refine (evpa_cons (evp_I0 (P := fun d => ∃ n : Int, d = .int n ∧ 1 ≤ n ∧ n ≤ 3) evd_int (evp_take (ev_var rfl) hb3 evd_int (by decide) (by decide)) ?_) eva_nil).mono ?_
            · rintro a _ rfl ⟨k, rfl, k0, k1⟩
              exact ⟨1, k, rfl, rfl, _, ⟨1 + k, rfl, by omega, by omega⟩, fun _ => .int _⟩
            · rintro d ⟨a, ds, rfl, ⟨n, rfl, h⟩, rfl⟩
              exact ⟨n, rfl, h⟩
          · refine qg _ H' (Ex.refl _) ⟨rfl, evt_yes, fun _ => evp_op (evd_var rfl (.str _)) (evp_take (ev_var rfl) (e _ _ hb3) evd_int (by decide) (by decide)) fun x y a d H5 e5 dx dy px py Q q => ?_⟩
            obtain ⟨k, rfl, k0, k1⟩ := py
            subst px
            cases dx
            cases dy
            obtain ⟨c, hc, h⟩ := letter_at k0 k1
            exact ⟨_, k, c, rfl, rfl, letters_len, hc, q _ _ H5 (Ex.refl _) (.str _) ⟨c, rfl, h⟩⟩
          · rintro d ⟨n, es, pn, rfl, pr⟩
            rw [filter_yes] at pr
            have hlen := paired_len pr
            rw [List.length_range] at hlen
            have hm := paired_mem pr
            refine ⟨es.map fun d => match d with | .str z => z | _ => Str.empty, ?_, ?_, ?_, ?_⟩
            · congr 1
              rw [List.map_map]
              refine (List.map_id es).symm.trans (List.map_congr_left fun d hd => ?_)
              obtain ⟨_, _, c, rfl, _⟩ := hm d hd
              rfl
            · intro y hy
              obtain ⟨d, hd, rfl⟩ := List.mem_map.mp hy
              obtain ⟨_, _, c, rfl, h⟩ := hm d hd
              exact ⟨c, rfl, h⟩
            · rw [List.length_map]
              omega
            · rw [List.length_map]
              omega
        · have h1 : ∀ l : List Str, (∀ y ∈ l, ∃ c : Nat, y = ⟨#[c]⟩ ∧ 97 ≤ c ∧ c ≤ 122) → (l.map (·.length)).sum = l.length := by
            intro l
            induction l with
            | nil => intro _; rfl
            | cons y l ih =>
              intro h
              obtain ⟨c, rfl, _⟩ := h y List.mem_cons_self
              rw [List.map_cons, List.sum_cons, ih fun z hz => h z (List.mem_cons_of_mem _ hz), List.length_cons]
              show 1 + l.length = _
              omega
          rw [h1 ys hy.1]
          omega
      · obtain ⟨z, rfl, hz⟩ := hz
        cases dvz
        have hl4 := e4 _ _ hl3
        have dS4 := dS.ex e4
        have hb4 := e4 _ _ hb3
        -- if name not in [one for one, kids in found]
        refine s_when (evt_test (K := K) (M := MF) (evd_notInS (ys := S.map (·.1)) (evd_var rfl (.str z)) ?_)) (fun hn H5 e5 => ?_) (fun hn H5 e5 => ?_)
        · refine (evd_lcL (fun _ => true) (fun d => .str (sgU d).1) okF (evd_var rfl (.lst hl4 (fun h => h) dS4.flat)) (by rw [List.length_map]; exact Nat.lt_of_le_of_lt gS.len (by decide)) fun M' d x H' hm ok' hd e dx Qg qg => ?_).mono fun d h => ?_
          · obtain ⟨p, hp, rfl⟩ := List.mem_map.mp hd
            cases dx with
            | tup k1 k2 =>
              cases k2 with
              | cons r1 r2 =>
                cases r1
                cases r2 with
                | cons r3 r4 =>
                  cases r4
                  exact ⟨_, _, rfl, SqT.of k1, rfl, _, _, rfl, _, _, rfl, rfl, qg _ H' (Ex.refl _) ⟨rfl, evt_yes, fun _ => evd_var rfl (.str _)⟩⟩
          · rw [h, filter_yes, List.map_map, List.map_map]
            rfl
        · have hn' : z ∉ S.map (·.1) := by simpa using hn
          refine s_appP (K := K) (M := MT) (P := fun d => ∃ k : Int, d = .tuple [.str z, .int k] ∧ 0 ≤ k ∧ k < 3) (e5 _ _ hl4) rfl ?_ (Nat.lt_of_le_of_lt (by rw [dS.length, List.length_map]; exact gS.len) (by decide)) fun v d H6 e6 dv hd => ?_
          · refine (evp_tup (evpa_cons (evd_var rfl (.str z)) (evpa_cons (evp_take (ev_var rfl) (e5 _ _ hb4) evd_int (by decide) (by decide)) eva_nil)) ?_).mono ?_
            · rintro ds ⟨a, ds, rfl, rfl, c, ds', rfl, _, rfl⟩
              show 2 ≤ sizeLine
              decide
            · rintro d ⟨ds, rfl, a, ds, rfl, rfl, c, ds', rfl, ⟨k, rfl, h⟩, rfl⟩
              exact ⟨k, rfl, h⟩
          · obtain ⟨k, rfl, k0, k1⟩ := hd
            have hl6 := (e5.trans e6) _ _ hl4
            refine ⟨Ex.mut ((e3.trans e4).trans (e5.trans e6)) hl, xs ++ [v], S ++ [(z, k)], _, _, rfl, upd_same, ?_, gS.add (by omega) hz ⟨k0, by omega⟩ hn', ?_, fun _ => ?_⟩
            · rw [List.map_append]
              exact ((dS4.ex (e5.trans e6)).append (.one dv)).upd hl6 trivial
            · rw [List.length_append]
              exact Nat.succ_le_succ lS
            · rw [List.length_append]
              exact Nat.le_add_left _ _
        · have hn' : z ∈ S.map (·.1) := by simpa using hn
          refine ⟨(e3.trans e4).trans e5, xs, S, _, _, rfl, e5 _ _ hl4, dS4.ex e5, gS, Nat.le_succ_of_le lS, fun _ => ?_⟩
          obtain ⟨p, hp, _⟩ := List.mem_map.mp hn'
          exact List.length_pos_of_mem hp
    · rintro σ' H3 ⟨e3, xs, S, u, v, rfl, hl3, dS, gS, lS, nS⟩
      have ne : 1 ≤ S.length := nS (by omega)
      have hb3 := e3 _ _ hb
      -- spot
      refine q_asgP (K := K) (M := MF) (evp_take (n := ((S.map sgD).length : Int)) (ev_var rfl) hb3 (evd_lenL (eva_cons (evd_var rfl (.lst hl3 (fun h => h) dS.flat)) eva_nil)) (by rw [List.length_map]; omega) (by rw [List.length_map]; exact Nat.lt_of_le_of_lt (show ((S.length : Nat) : Int).natAbs ≤ 6 by have := gS.len; omega) (by decide))) fun vz dz H4 e4 dvz hz => ?_
      obtain ⟨k, rfl, k0, k1⟩ := hz
      cases dvz
      rw [List.length_map] at k1
      obtain ⟨j, rfl⟩ := Int.eq_ofNat_of_zero_le k0
      have hj : j < S.length := by omega
      have hl4 := e4 _ _ hl3
      have dS4 := dS.ex e4
      have e04 := e3.trans e4
      -- min
      refine EvP.test (K := K) (M := MF) (PB := fun b => (b = true → ∀ p ∈ S, 0 < p.2) ∧ (b = false → ∃ p ∈ S, p.2 = 0)) ?_ fun c H5 e5 hc => ?_
      · refine (evp_cmp (g := fun i j => decide (j < i)) (evp_min (ns := S.map (·.2)) (eva_cons ?_ eva_nil) (by rw [List.length_map]; exact ne)) evd_int (fun a ⟨m, e, _⟩ => ⟨m, e⟩) (fun a e => ⟨0, e⟩)).mono ?_
        · refine (evd_lcL (fun _ => true) (fun d => .int (sgU d).2) okF (evd_var rfl (.lst hl4 (fun h => h) dS4.flat)) (by rw [List.length_map]; exact Nat.lt_of_le_of_lt gS.len (by decide)) fun M' d x H' hm ok' hd e dx Qg qg => ?_).mono fun d h => ?_
          · obtain ⟨p, hp, rfl⟩ := List.mem_map.mp hd
            cases dx with
            | tup k1 k2 =>
              cases k2 with
              | cons r1 r2 =>
                cases r1
                cases r2 with
                | cons r3 r4 =>
                  cases r4
                  cases r3
                  exact ⟨_, _, rfl, SqT.of k1, rfl, _, _, rfl, _, _, rfl, rfl, qg _ H' (Ex.refl _) ⟨rfl, evt_yes, fun _ => evd_var rfl (.int _)⟩⟩
          · rw [h, filter_yes, List.map_map, List.map_map]
            rfl
        · rintro d ⟨m, z, ⟨m', em, hm, hall⟩, ez, rfl⟩
          cases em
          cases ez
          refine ⟨_, rfl, fun h p hp => ?_, fun h => ?_⟩
          · have h1 : 0 < m := of_decide_eq_true h
            exact Int.lt_of_lt_of_le h1 (hall _ (List.mem_map_of_mem hp))
          · have h1 : ¬ 0 < m := of_decide_eq_false h
            obtain ⟨p, hp, rfl⟩ := List.mem_map.mp hm
            exact ⟨p, hp, by have := (gS.kids p hp).1; omega⟩
      · have hl5 := e5 _ _ hl4
        have dS5 := dS4.ex e5
        cases c with
        | true =>
          have hjl : j < xs.length := by rw [dS.length, List.length_map]; exact hj
          have hSj : S[j]? = some S[j] := List.getElem?_eq_getElem hj
          refine iteT (s_setP (K := K) (M := MT) (P := (· = sgD (S[j].1, 0))) (j := j) hl5 rfl rfl hjl ?_ fun v d H6 e6 dv hd => ?_)
          · obtain ⟨vj, hvj, dvj⟩ := dS5.at (i := j) (d := sgD S[j]) (by rw [List.getElem?_map, hSj]; rfl)
            exact evd_tup (ds := [.str S[j].1, .int 0]) (eva_cons (evd_ixT (j := 0) (ds := [.str S[j].1, .int S[j].2]) (evd_of (ev_op (ev_var rfl) (ev_var rfl) (rv_ixL (sq_of hl5) (atI_nat hvj))) dvj) evd_int rfl rfl) (eva_cons evd_int eva_nil)) (by show 2 ≤ sizeLine; decide)
          · subst hd
            refine ⟨_, rfl, q l _ (S.set j (S[j].1, 0)) _ (gS.zero hSj) (Ex.mut ((e04.trans e5).trans e6) hl) hl upd_same ?_⟩
            rw [List.map_set]
            exact ((dS5.ex e6).set j dv).upd (e6 _ _ hl5) trivial
        | false =>
          exact iteF ⟨_, rfl, q l xs S H5 ⟨gS, ne, hc.2 rfl⟩ (e04.trans e5) hl hl5 dS5⟩
end
end TH
set_option maxRecDepth 100000
set_option maxHeartbeats 4000000
namespace TH
open PySem L2 Evl
/-- a method that keeps its promise -/
def OneM (P : Program) (w : World) (K : PySem.W.Frag) (mg : Str → Option Value) (base : Heap) (C : Addr) (m : Str) (k : Nat) (ps : List Str) (sp : Sp) : Prop :=
  ∃ (f : Addr) (fd : FuncData), Meth K C m f ∧ FnOk P w K mg base CX0 k f fd ps sp ∧ Binds K fd ps []
/-- a def that keeps its promise -/
def OneF (P : Program) (w : World) (K : PySem.W.Frag) (mg : Str → Option Value) (base : Heap) (x : Str) (k : Nat) (ps : List Str) (sp : Sp) : Prop :=
  ∃ (f : Addr) (fd : FuncData), mg x = some (.ref f) ∧ PySem.W.keepIn K (.ref f) = true ∧ FnOk P w K mg base CX0 k f fd ps sp ∧ Binds K fd ps []
end TH
namespace TH
/-! ### trees, their rows, their sizes -/
inductive Tr where
  | n0 (s : Nat)
  | n1 (s : Nat) (t : Tr)
  | n2 (s : Nat) (t u : Tr)
  deriving DecidableEq
namespace Tr
def root : Tr → Nat
  | n0 s => s
  | n1 s _ => s
  | n2 s _ _ => s
def kids : Tr → List Tr
  | n0 _ => []
  | n1 _ t => [t]
  | n2 _ t u => [t, u]
def row : Tr → List Nat
  | n0 s => [s]
  | n1 s t => s :: row t
  | n2 s t u => s :: (row t ++ row u)
def rowF (ts : List Tr) : List Nat := (ts.map row).flatten
def size (t : Tr) : Nat := t.row.length
def sizeF (ts : List Tr) : Nat := (rowF ts).length
def sizes : Tr → List Nat
  | n0 _ => [1]
  | n1 s t => (1 + size t) :: sizes t
  | n2 s t u => (1 + (size t + size u)) :: (sizes t ++ sizes u)
def sizesF (ts : List Tr) : List Nat := (ts.map sizes).flatten
theorem rowF_nil : rowF [] = [] := rfl
theorem rowF_cons (t : Tr) (ts : List Tr) : rowF (t :: ts) = t.row ++ rowF ts := by
  unfold rowF
  rw [List.map_cons, List.flatten_cons]
theorem rowF_app (ts us : List Tr) : rowF (ts ++ us) = rowF ts ++ rowF us := by
  unfold rowF
  rw [List.map_append, List.flatten_append]
theorem sizesF_cons (t : Tr) (ts : List Tr) : sizesF (t :: ts) = t.sizes ++ sizesF ts := by
  unfold sizesF
  rw [List.map_cons, List.flatten_cons]
theorem sizesF_app (ts us : List Tr) : sizesF (ts ++ us) = sizesF ts ++ sizesF us := by
  unfold sizesF
  rw [List.map_append, List.flatten_append]
theorem sizeF_cons (t : Tr) (ts : List Tr) : sizeF (t :: ts) = t.size + sizeF ts := by
  unfold sizeF size
  rw [rowF_cons, List.length_append]
theorem sizeF_app (ts us : List Tr) : sizeF (ts ++ us) = sizeF ts + sizeF us := by
  unfold sizeF
  rw [rowF_app, List.length_append]
theorem sizeF_nil : sizeF [] = 0 := rfl
theorem row_eq (t : Tr) : t.row = t.root :: rowF t.kids := by
  cases t with
  | n0 s => rfl
  | n1 s t => show s :: row t = s :: rowF [t]; rw [rowF_cons, rowF_nil, List.append_nil]
  | n2 s t u => show s :: (row t ++ row u) = s :: rowF [t, u]; rw [rowF_cons, rowF_cons, rowF_nil, List.append_nil]
theorem size_eq (t : Tr) : t.size = 1 + sizeF t.kids := by
  unfold size sizeF
  rw [row_eq, List.length_cons, Nat.add_comm]
theorem sizes_eq (t : Tr) : t.sizes = t.size :: sizesF t.kids := by
  cases t with
  | n0 s => rfl
  | n1 s t => 
    rw [size_eq]
    show (1 + size t) :: sizes t = (1 + sizeF [t]) :: sizesF [t]
    rw [sizeF_cons, sizesF_cons]
    show _ = (1 + (t.size + 0)) :: (t.sizes ++ [])
    rw [List.append_nil, Nat.add_zero]
  | n2 s t u => 
    rw [size_eq]
    show (1 + (size t + size u)) :: (sizes t ++ sizes u) = (1 + sizeF [t, u]) :: sizesF [t, u]
    rw [sizeF_cons, sizesF_cons, sizeF_cons, sizesF_cons]
    show _ = (1 + (t.size + (u.size + 0))) :: (t.sizes ++ (u.sizes ++ []))
    rw [List.append_nil, Nat.add_zero]
theorem kids_le (t : Tr) : t.kids.length ≤ 2 := by
  cases t with
  | n0 s => exact Nat.zero_le _
  | n1 s t => exact Nat.le_succ _
  | n2 s t u => exact Nat.le_refl _
theorem size_pos (t : Tr) : 0 < t.size := by
  rw [size_eq]
  omega
/-- an induction by kids -/
theorem ind {P : Tr → Prop} (h : ∀ t, (∀ k ∈ t.kids, P k) → P t) : ∀ t, P t
  | n0 s => h _ fun k hk => nomatch hk
  | n1 s t => by
    have h1 := ind h t
    refine h _ fun k hk => ?_
    rw [List.mem_singleton.mp hk]
    exact h1
  | n2 s t u => by
    have h1 := ind h t
    have h2 := ind h u
    refine h _ fun k hk => ?_
    rcases List.mem_cons.mp hk with hk | hk
    · rw [hk]
      exact h1
    · rw [List.mem_singleton.mp hk]
      exact h2
theorem sizes_len : ∀ t : Tr, t.sizes.length = t.size
  | n0 s => rfl
  | n1 s t => by
    rw [sizes_eq, List.length_cons, size_eq]
    show (sizesF [t]).length + 1 = 1 + sizeF [t]
    rw [sizesF_cons, sizeF_cons, List.length_append, sizes_len t]
    show t.size + 0 + 1 = 1 + (t.size + 0)
    omega
  | n2 s t u => by
    rw [sizes_eq, List.length_cons, size_eq]
    show (sizesF [t, u]).length + 1 = 1 + sizeF [t, u]
    rw [sizesF_cons, sizeF_cons, List.length_append, sizes_len t, sizesF_cons, sizeF_cons, List.length_append, sizes_len u]
    show t.size + (u.size + 0) + 1 = 1 + (t.size + (u.size + 0))
    omega
theorem sizesF_len (ts : List Tr) : (sizesF ts).length = sizeF ts := by
  induction ts with
  | nil => rfl
  | cons t ts ih => rw [sizesF_cons, sizeF_cons, List.length_append, ih, sizes_len]
/-- where the j-th of them begins -/
theorem sizesF_at {ts : List Tr} {j : Nat} {u : Tr} (h : ts[j]? = some u) (r : List Nat) : (sizesF ts ++ r)[sizeF (ts.take j)]? = some u.size := by
  induction ts generalizing j with
  | nil => cases h
  | cons t ts ih =>
    cases j with
    | zero =>
      have h : some t = some u := h
      cases h
      rw [sizesF_cons, sizes_eq]
      rfl
    | succ j =>
      have h : ts[j]? = some u := h
      rw [List.take_succ_cons, sizeF_cons, sizesF_cons, List.append_assoc, List.getElem?_append_right (by rw [sizes_len]; omega), sizes_len, Nat.add_sub_cancel_left]
      exact ih h
theorem take_snoc {α : Type} {ts : List α} {j : Nat} {u : α} (h : ts[j]? = some u) : ts.take (j + 1) = ts.take j ++ [u] := by
  rw [List.take_add_one, h]
  rfl
theorem sizeF_take {ts : List Tr} {j : Nat} {u : Tr} (h : ts[j]? = some u) : sizeF (ts.take (j + 1)) = sizeF (ts.take j) + u.size := by
  rw [take_snoc h, sizeF_app, sizeF_cons, sizeF_nil, Nat.add_zero]
theorem rowF_drop {ts : List Tr} {j : Nat} : (rowF ts).drop (sizeF (ts.take j)) = rowF (ts.drop j) := by
  have e : rowF ts = rowF (ts.take j) ++ rowF (ts.drop j) := by rw [← rowF_app, List.take_append_drop]
  rw [e]
  exact List.drop_left
/-! ### what is left of a wood from the n-th sign on -/
def next : List Tr → List Tr
  | [] => []
  | t :: ts => t.kids ++ ts
def suf : Nat → List Tr → List Tr
  | 0, ts => ts
  | n + 1, ts => suf n (next ts)
theorem rowF_next (ts : List Tr) : rowF (next ts) = (rowF ts).drop 1 := by
  cases ts with
  | nil => rfl
  | cons t ts =>
    show rowF (t.kids ++ ts) = _
    rw [rowF_app, rowF_cons, row_eq]
    rfl
theorem rowF_suf (n : Nat) : ∀ ts : List Tr, rowF (suf n ts) = (rowF ts).drop n := by
  induction n with
  | zero => intro ts; rfl
  | succ n ih =>
    intro ts
    show rowF (suf n (next ts)) = _
    rw [ih, rowF_next, List.drop_drop, Nat.add_comm]
theorem suf_succ (n : Nat) : ∀ ts : List Tr, suf (n + 1) ts = next (suf n ts) := by
  induction n with
  | zero => intro ts; rfl
  | succ n ih =>
    intro ts
    show suf (n + 1) (next ts) = next (suf n (next ts))
    exact ih _
theorem suf_add (m n : Nat) (ts : List Tr) : suf (m + n) ts = suf n (suf m ts) := by
  induction n with
  | zero => rfl
  | succ n ih => rw [← Nat.add_assoc, suf_succ, suf_succ, ih]
theorem rowF_empty {ts : List Tr} : rowF ts = [] ↔ ts = [] := by
  cases ts with
  | nil => exact ⟨fun _ => rfl, fun _ => rfl⟩
  | cons t ts =>
    rw [rowF_cons, row_eq]
    exact ⟨fun h => by simp at h, fun h => by simp at h⟩
theorem suf_nil {n : Nat} {ts : List Tr} : suf n ts = [] ↔ sizeF ts ≤ n := by
  rw [← rowF_empty, rowF_suf, List.drop_eq_nil_iff]
  rfl
theorem suf_cons {n : Nat} {ts : List Tr} (h : n < sizeF ts) : ∃ u us, suf n ts = u :: us ∧ (rowF ts)[n]? = some u.root := by
  cases e : suf n ts with
  | nil => exact absurd (suf_nil.mp e) (by omega)
  | cons u us =>
    refine ⟨u, us, rfl, ?_⟩
    have q := rowF_suf n ts
    rw [e, rowF_cons, row_eq] at q
    have q2 : ((rowF ts).drop n)[0]? = some u.root := by rw [← q]; rfl
    rwa [List.getElem?_drop, Nat.add_zero] at q2
theorem row_one (t : Tr) : rowF [t] = t.row := by rw [rowF_cons, rowF_nil, List.append_nil]
theorem size_one (t : Tr) : sizeF [t] = t.size := by rw [sizeF_cons, sizeF_nil, Nat.add_zero]
theorem sizes_one (t : Tr) : sizesF [t] = t.sizes := by rw [sizesF_cons]; exact List.append_nil _
/-- past the whole of a wood -/
theorem suf_app (ts us : List Tr) : suf (sizeF ts) (ts ++ us) = us := by
  have key : ∀ n : Nat, ∀ ts : List Tr, sizeF ts = n → suf n (ts ++ us) = us := by
    intro n
    induction n with
    | zero =>
      intro ts h
      have : ts = [] := by
        have := (suf_nil (n := 0) (ts := ts)).mpr (by omega)
        exact this
      rw [this]
      rfl
    | succ n ih =>
      intro ts h
      cases ts with
      | nil => rw [sizeF_nil] at h; omega
      | cons t ts =>
        show suf n (next (t :: (ts ++ us))) = us
        show suf n (t.kids ++ (ts ++ us)) = us
        rw [← List.append_assoc]
        refine ih _ ?_
        rw [sizeF_cons, size_eq] at h
        rw [sizeF_app]
        omega
  exact key _ ts rfl
theorem suf_in (n : Nat) : ∀ (ts us : List Tr), n ≤ sizeF ts → suf n (ts ++ us) = suf n ts ++ us := by
  induction n with
  | zero => intro ts us _; rfl
  | succ n ih =>
    intro ts us h
    cases ts with
    | nil => rw [sizeF_nil] at h; omega
    | cons t ts =>
      show suf n (t.kids ++ (ts ++ us)) = suf n (t.kids ++ ts) ++ us
      rw [← List.append_assoc]
      refine ih _ _ ?_
      rw [sizeF_cons, size_eq] at h
      rw [sizeF_app]
      omega
/-- the j-th kid of what stands at p -/
theorem suf_kid {n j : Nat} {ts us : List Tr} {u k : Tr} (h : suf n ts = u :: us) (hk : u.kids[j]? = some k) : suf (n + 1 + sizeF (u.kids.take j)) ts = k :: (u.kids.drop (j + 1) ++ us) := by
  rw [suf_add, suf_succ, h]
  show suf (sizeF (u.kids.take j)) (u.kids ++ us) = _
  obtain ⟨hlt, e⟩ := List.getElem?_eq_some_iff.mp hk
  have e2 : u.kids ++ us = u.kids.take j ++ (u.kids.drop j ++ us) := by rw [← List.append_assoc, List.take_append_drop]
  rw [e2, suf_app, List.drop_eq_getElem_cons hlt, e]
  rfl
/-- a part's row within the whole one -/
theorem suf_row {n : Nat} {ts us : List Tr} {u : Tr} (h : suf n ts = u :: us) : ((rowF ts).drop n).take u.size = u.row ∧ n + u.size ≤ sizeF ts ∧ (rowF ts).drop (n + u.size) = rowF us := by
  have e : (rowF ts).drop n = u.row ++ rowF us := by rw [← rowF_suf, h, rowF_cons]
  have hl : (rowF ts).length - n = u.size + (rowF us).length := by
    have := congrArg List.length e
    rwa [List.length_drop, List.length_append] at this
  have hp := size_pos u
  refine ⟨by rw [e]; exact List.take_left, by unfold sizeF; omega, ?_⟩
  rw [← List.drop_drop, e]
  exact List.drop_left
theorem sizesF_next (ts : List Tr) : sizesF (next ts) = (sizesF ts).drop 1 := by
  cases ts with
  | nil => rfl
  | cons t ts =>
    show sizesF (t.kids ++ ts) = _
    rw [sizesF_app, sizesF_cons, sizes_eq]
    rfl
theorem sizesF_suf (n : Nat) : ∀ ts : List Tr, sizesF (suf n ts) = (sizesF ts).drop n := by
  induction n with
  | zero => intro ts; rfl
  | succ n ih =>
    intro ts
    show sizesF (suf n (next ts)) = _
    rw [ih, sizesF_next, List.drop_drop, Nat.add_comm]
theorem sizes_at {n : Nat} {t u : Tr} {us : List Tr} (h : suf n [t] = u :: us) : t.sizes[n]? = some u.size := by
  have q := sizesF_suf n [t]
  rw [h, sizes_one, sizesF_cons, sizes_eq u] at q
  have q2 : ((t.sizes).drop n)[0]? = some u.size := by rw [← q]; rfl
  rwa [List.getElem?_drop, Nat.add_zero] at q2
theorem row_at {n : Nat} {t u : Tr} {us : List Tr} (h : suf n [t] = u :: us) : t.row[n]? = some u.root := by
  have q := rowF_suf n [t]
  rw [h, row_one, rowF_cons, row_eq u] at q
  have q2 : ((t.row).drop n)[0]? = some u.root := by rw [← q]; rfl
  rwa [List.getElem?_drop, Nat.add_zero] at q2
/-! ### rows that are rows of trees -/
/-- the trees of a book: each sign with as many kids as the book says -/
def Ok (n : Nat) (ar : Nat → Nat) : Tr → Prop
  | n0 s => s < n ∧ ar s = 0
  | n1 s t => s < n ∧ ar s = 1 ∧ Ok n ar t
  | n2 s t u => s < n ∧ ar s = 2 ∧ Ok n ar t ∧ Ok n ar u
variable {n : Nat} {ar : Nat → Nat}
theorem Ok.root {t : Tr} (h : Ok n ar t) : t.root < n := by
  cases t with
  | n0 s => exact h.1
  | n1 s t => exact h.1
  | n2 s t u => exact h.1
theorem Ok.kids {t : Tr} (h : Ok n ar t) : ∀ k ∈ t.kids, Ok n ar k := by
  cases t with
  | n0 s => intro k hk; cases hk
  | n1 s t =>
    intro k hk
    rw [List.mem_singleton.mp hk]
    exact h.2.2
  | n2 s t u =>
    intro k hk
    rcases List.mem_cons.mp hk with rfl | hk
    · exact h.2.2.1
    · rw [List.mem_singleton.mp hk]
      exact h.2.2.2
theorem Ok.ark {t : Tr} (h : Ok n ar t) : ar t.root = t.kids.length := by
  cases t with
  | n0 s => exact h.2
  | n1 s t => exact h.2.1
  | n2 s t u => exact h.2.1
theorem okF_next {ts : List Tr} (h : ∀ t ∈ ts, Ok n ar t) : ∀ t ∈ next ts, Ok n ar t := by
  cases ts with
  | nil => exact h
  | cons t ts =>
    intro u hu
    rcases List.mem_append.mp hu with hu | hu
    · exact (h t List.mem_cons_self).kids u hu
    · exact h u (List.mem_cons_of_mem _ hu)
theorem okF_suf (m : Nat) : ∀ {ts : List Tr}, (∀ t ∈ ts, Ok n ar t) → ∀ t ∈ suf m ts, Ok n ar t := by
  induction m with
  | zero => intro ts h; exact h
  | succ m ih => intro ts h; exact ih (okF_next h)
/-- the count of trees that are due -/
def run (n : Nat) (ar : Nat → Nat) : Nat → List Nat → Option Nat
  | d, [] => some d
  | d, s :: r => if d = 0 then none else if s < n then run n ar (d - 1 + ar s) r else none
theorem run_app (r1 r2 : List Nat) : ∀ {d e : Nat}, run n ar d r1 = some e → run n ar d (r1 ++ r2) = run n ar e r2 := by
  induction r1 with
  | nil =>
    intro d e h
    cases h
    rfl
  | cons s r ih =>
    intro d e h
    rw [run] at h
    rw [List.cons_append, run]
    split at h
    · cases h
    · split at h
      · rename_i h1 h2
        rw [if_neg h1, if_pos h2]
        exact ih h
      · cases h
theorem run_snoc {r : List Nat} {d e s : Nat} (h : run n ar d r = some e) (he : 0 < e) (hs : s < n) : run n ar d (r ++ [s]) = some (e - 1 + ar s) := by
  rw [run_app r [s] h, run, if_neg (by omega), if_pos hs, run]
/-- a row without any due is the row of a tree -/
theorem run_wood (ha : ∀ s, ar s ≤ 2) : ∀ (r : List Nat) (d : Nat), run n ar d r = some 0 → ∃ ts : List Tr, ts.length = d ∧ (∀ t ∈ ts, Ok n ar t) ∧ rowF ts = r
  | [], d, h => by
    cases h
    exact ⟨[], rfl, fun t ht => (nomatch ht), rfl⟩
  | s :: r, d, h => by
    rw [run] at h
    split at h
    · cases h
    · split at h
      · rename_i h1 h2
        obtain ⟨ts, hl, ho, hr⟩ := run_wood ha r _ h
        have h3 := ha s
        rcases (show ar s = 0 ∨ ar s = 1 ∨ ar s = 2 by omega) with e | e | e
        · refine ⟨n0 s :: ts, by rw [List.length_cons]; omega, fun t ht => ?_, ?_⟩
          · rcases List.mem_cons.mp ht with rfl | ht
            · exact ⟨h2, e⟩
            · exact ho t ht
          · rw [rowF_cons, hr]
            rfl
        · match ts, hl, ho, hr with
          | a :: us, hl, ho, hr =>
            refine ⟨n1 s a :: us, by rw [List.length_cons] at hl ⊢; omega, fun t ht => ?_, ?_⟩
            · rcases List.mem_cons.mp ht with rfl | ht
              · exact ⟨h2, e, ho a List.mem_cons_self⟩
              · exact ho t (List.mem_cons_of_mem _ ht)
            · rw [rowF_cons] at hr ⊢
              rw [← hr]
              rfl
          | [], hl, _, _ => rw [List.length_nil] at hl; omega
        · match ts, hl, ho, hr with
          | a :: b :: us, hl, ho, hr =>
            refine ⟨n2 s a b :: us, by rw [List.length_cons, List.length_cons] at hl; rw [List.length_cons]; omega, fun t ht => ?_, ?_⟩
            · rcases List.mem_cons.mp ht with rfl | ht
              · exact ⟨h2, e, ho a List.mem_cons_self, ho b (List.mem_cons_of_mem _ List.mem_cons_self)⟩
              · exact ho t (List.mem_cons_of_mem _ (List.mem_cons_of_mem _ ht))
            · rw [rowF_cons, rowF_cons] at hr
              rw [rowF_cons, ← hr, row, List.cons_append, List.append_assoc]
          | [], hl, _, _ => rw [List.length_nil] at hl; omega
          | [_], hl, _, _ => rw [List.length_cons, List.length_nil] at hl; omega
      · cases h
theorem run_rowF : ∀ (m : Nat) (ts : List Tr), sizeF ts ≤ m → (∀ t ∈ ts, Ok n ar t) → run n ar ts.length (rowF ts) = some 0
  | m, [], _, _ => rfl
  | 0, t :: ts, hm, _ => by
    rw [sizeF_cons] at hm
    have := size_pos t
    omega
  | m + 1, t :: ts, hm, ho => by
    have ht := ho t List.mem_cons_self
    rw [rowF_cons, row_eq, List.cons_append, run, if_neg (by rw [List.length_cons]; omega), if_pos ht.root, ht.ark, ← rowF_app, List.length_cons]
    have e : ts.length + 1 - 1 + t.kids.length = (t.kids ++ ts).length := by rw [List.length_append]; omega
    rw [e]
    refine run_rowF m _ ?_ fun u hu => ?_
    · rw [sizeF_cons, size_eq] at hm
      rw [sizeF_app]
      omega
    · rcases List.mem_append.mp hu with hu | hu
      · exact ht.kids u hu
      · exact ho u (List.mem_cons_of_mem _ hu)
theorem run_row {t : Tr} (h : Ok n ar t) : run n ar 1 t.row = some 0 := by
  have := run_rowF (n := n) (ar := ar) _ [t] (Nat.le_refl _) fun u hu => by rw [List.mem_singleton.mp hu]; exact h
  rwa [row_one] at this
theorem run_tree (ha : ∀ s, ar s ≤ 2) {r : List Nat} (h : run n ar 1 r = some 0) : ∃ t, Ok n ar t ∧ t.row = r := by
  obtain ⟨ts, hl, ho, hr⟩ := run_wood ha r 1 h
  match ts, hl with
  | [t], _ => exact ⟨t, ho t List.mem_cons_self, by rw [← hr, row_one]⟩
theorem row_lt {t : Tr} (h : Ok n ar t) : ∀ s ∈ t.row, s < n := by
  intro s hs
  obtain ⟨j, hj⟩ := List.mem_iff_getElem?.mp hs
  have hlt : j < sizeF [t] := by
    rw [size_one]
    exact (List.getElem?_eq_some_iff.mp hj).1
  obtain ⟨u, us, e, er⟩ := suf_cons hlt
  rw [row_one, hj] at er
  cases er
  exact (okF_suf j (ts := [t]) (fun v hv => by rw [List.mem_singleton.mp hv]; exact h) u (by rw [e]; exact List.mem_cons_self)).root
end Tr
end TH
set_option maxRecDepth 100000
set_option maxHeartbeats 4000000
namespace TH
open PySem L2 Evl
/-! ### books and rows -/
/-- how many kids the j-th sign has -/
def ks (S : List Sg) (j : Nat) : Nat := match S[j]? with
  | some q => q.2.toNat
  | none => 0
def KidsOk (S : List Sg) : Prop := ∀ q ∈ S, 0 ≤ q.2 ∧ q.2 ≤ 2
theorem ks_of {S : List Sg} {j : Nat} {q : Sg} (h : S[j]? = some q) : ks S j = q.2.toNat := by
  unfold ks
  rw [h]
theorem ks_le {S : List Sg} (h : KidsOk S) (j : Nat) : ks S j ≤ 2 := by
  unfold ks
  split
  · rename_i q e
    have := h q (List.mem_of_getElem? e)
    omega
  · exact Nat.zero_le _
theorem Good.kidsOk {S : List Sg} (h : Good S) : KidsOk S := h.kids
abbrev OkT (S : List Sg) (t : Tr) : Prop := Tr.Ok S.length (ks S) t
/-- a tuple, a list of ints -/
def tupI (ns : List Int) : PyData := .tuple (ns.map PyData.int)
def ofN (r : List Nat) : List Int := r.map fun (s : Nat) => (s : Int)
theorem ofN_len (r : List Nat) : (ofN r).length = r.length := List.length_map _
theorem ofN_at {r : List Nat} {j s : Nat} (h : r[j]? = some s) : (ofN r)[j]? = some (s : Int) := by
  unfold ofN
  rw [List.getElem?_map, h]
  rfl
def rowD (t : Tr) : PyData := tupI (ofN t.row)
section
variable {K : PySem.W.Frag} {M M' : Addr → Prop} {H H1 H' : Hp} {σ : L2.St} {ta tb te tc : TE} {v : V} {ns : List Int}
theorem dt_tupS (h : Dt K M H v (tupI ns)) : ∃ a, v = .ref a ∧ H a = some (.tup (ns.map V.int)) := by
  unfold tupI at h
  cases h with
  | tup h1 h2 =>
    rw [h2.ints] at h1
    exact ⟨_, rfl, h1⟩
theorem dt_tup (h : Dt K M H v (tupI ns)) : ∃ a, v = .ref a ∧ SqT K H a (ns.map V.int) := by
  obtain ⟨a, e, h1⟩ := dt_tupS h
  exact ⟨a, e, SqT.of h1⟩
theorem dt_of_tup {a : Addr} (h : H a = some (.tup (ns.map V.int))) : Dt K M H (.ref a) (tupI ns) := .tup h (Dts.of_ints ns)
theorem dt_any (h : Dt K M H v (tupI ns)) : Dt K M' H v (tupI ns) := by
  obtain ⟨a, rfl, h1⟩ := dt_tupS h
  exact dt_of_tup h1
/-! ### the book asked -/
theorem evd_many {C p : Addr} {S : List Sg} {i : Nat} {E : XK} (hs : σ[i]? = some (some (.ref p))) (hB : BookAt C M H p S) : EvD K M' (tMeth C "many" (spMany C) [] E (tVar i) tNil) σ H (.int S.length) := fun H1 e Q q => by
  have h := hB.ex e
  have h' := h
  obtain ⟨dx, l1, l2, h1, _⟩ := h'
  exact ⟨_, hs, p, dx, _, rfl, h1, flds_no _ _ (by decide +kernel) (by decide +kernel), M, p, S, rfl, h, q _ _ H1 (Ex.refl _) (.int _) rfl⟩
theorem evd_has {C p : Addr} {S : List Sg} {i : Nat} {z : Int} {E : XK} (hs : σ[i]? = some (some (.ref p))) (hB : BookAt C M H p S) (ha : EvD K M' ta σ H (.int z)) :
    EvD K M' (tMeth C "has" (spHas C) [] E (tVar i) (tCons ta tNil)) σ H (.bool (decide (0 ≤ z) && decide (z < (S.length : Int)))) := fun H1 e Q q => by
  have h := hB.ex e
  have h' := h
  obtain ⟨dx, l1, l2, h1, _⟩ := h'
  refine ⟨_, hs, p, dx, _, rfl, h1, flds_no _ _ (by decide +kernel) (by decide +kernel), ha H1 e _ fun v d H2 e2 dv pd => ?_⟩
  subst pd
  cases dv
  exact ⟨M, p, S, z, rfl, h.ex e2, fun H3 e3 => q _ _ H3 (e2.trans e3) (.bl _) rfl⟩
theorem evd_kids {C p : Addr} {S : List Sg} {i j : Nat} {z : Int} {r : Sg} {E : XK} (hs : σ[i]? = some (some (.ref p))) (hB : BookAt C M H p S) (ha : EvD K M' ta σ H (.int z)) (hz : z = (j : Int)) (hj : S[j]? = some r) :
    EvD K M' (tMeth C "kids" (spKd C) [] E (tVar i) (tCons ta tNil)) σ H (.int r.2) := fun H1 e Q q => by
  have h := hB.ex e
  have h' := h
  obtain ⟨dx, l1, l2, h1, _⟩ := h'
  refine ⟨_, hs, p, dx, _, rfl, h1, flds_no _ _ (by decide +kernel) (by decide +kernel), ha H1 e _ fun v d H2 e2 dv pd => ?_⟩
  subst pd
  cases dv
  subst hz
  exact ⟨M, p, S, j, r, rfl, h.ex e2, hj, q _ _ H2 e2 (.int _) rfl⟩
end
structure BookK (P : Program) (w : World) (K : PySem.W.Frag) (mg : Str → Option Value) (base : Heap) (C : Addr) : Prop where
  T : BookT K mg C
  many : OneM P w K mg base C "many" 1 ["self"] (spMany C)
  kids : OneM P w K mg base C "kids" 1 ["self", "sign"] (spKd C)
/-! ### is_row -/
def runB (S : List Sg) : Nat → List Int → Bool
  | d, [] => decide (d = 0)
  | d, z :: r => if d = 0 then false else if 0 ≤ z ∧ z < S.length then runB S (d - 1 + ks S z.toNat) r else false
theorem runB_run {S : List Sg} : ∀ (r : List Nat) (d : Nat), runB S d (ofN r) = decide (Tr.run S.length (ks S) d r = some 0)
  | [], d => by
    show decide (d = 0) = decide (some d = some 0)
    simp
  | s :: r, d => by
    show runB S d ((s : Int) :: ofN r) = _
    rw [runB, Tr.run]
    by_cases h : d = 0
    · rw [if_pos h, if_pos h]
      rfl
    · rw [if_neg h, if_neg h]
      by_cases h2 : s < S.length
      · rw [if_pos ⟨by omega, by omega⟩, if_pos h2]
        exact runB_run r _
      · rw [if_neg (by omega), if_neg h2]
        rfl
theorem runB_row {S : List Sg} {t : Tr} (h : OkT S t) : runB S 1 (ofN t.row) = true := by
  rw [runB_run, decide_eq_true_eq]
  exact Tr.run_row h
/-- a row of ints without any due is the row of a tree -/
theorem runB_tree {S : List Sg} (hk : KidsOk S) {ns : List Int} (h : runB S 1 ns = true) : ∃ t, OkT S t ∧ ns = ofN t.row := by
  have hn : ∀ (ns : List Int) (d : Nat), runB S d ns = true → ∃ r : List Nat, ns = ofN r := by
    intro ns
    induction ns with
    | nil => exact fun d _ => ⟨[], rfl⟩
    | cons z ns ih =>
      intro d h
      rw [runB] at h
      split at h
      · cases h
      · split at h
        · rename_i h2
          obtain ⟨r, rfl⟩ := ih _ h
          refine ⟨z.toNat :: r, ?_⟩
          show z :: ofN r = (z.toNat : Int) :: ofN r
          rw [Int.toNat_of_nonneg h2.1]
        · cases h
  obtain ⟨r, rfl⟩ := hn ns 1 h
  rw [runB_run, decide_eq_true_eq] at h
  obtain ⟨t, ht, rfl⟩ := Tr.run_tree (ks_le hk) h
  exact ⟨t, ht, rfl⟩
structure GlobR (mg : Str → Option Value) : Prop where
  mostT : ∃ t, mg "MOST_SIGNS_trees" = some (.int 40 t)
  reversed : mg "reversed" = none
section
variable {K : PySem.W.Frag} {M M' : Addr → Prop} {H H1 H' : Hp} {σ : L2.St} {ta tb te tc : TE} {v : V} {ns : List Int} {D : Ends} {tu tz : TS}
theorem ev_ofI {i : Int} (h : EvD K M te σ H (.int i)) : Ev te σ H (.int i) := fun H1 e Q q => h H1 e _ fun v d H2 e2 dv pd => by
  subst pd
  cases dv
  exact q H2 e2
theorem ev_ofB {i : Bool} (h : EvD K M te σ H (.bool i)) : Ev te σ H (.bl i) := fun H1 e Q q => h H1 e _ fun v d H2 e2 dv pd => by
  subst pd
  cases dv
  exact q H2 e2
theorem s_forRev {j n : Nat} (h : Ev te σ H (.int (n : Int))) (hn : n ≤ 100000) (Pv : Nat → L2.St → Hp → Prop) (h0 : ∀ H1, Ex H H1 → Pv 0 σ H1)
    (hs : ∀ (i : Nat) σ' H', i < n → Pv i σ' H' → tu { D with nx := Pv (i + 1), ct := Pv (i + 1), bk := D.nx } (σ'.set j (some (.int ((n - 1 - i : Nat) : Int)))) H') (hd : ∀ σ' H', Pv n σ' H' → D.nx σ' H') : tFor (iRevR (tRg1 te)) (gName j) tu D σ H :=
  h H (Ex.refl H) _ fun H1 e => ⟨_, rfl, by omega, by omega, by omega, by omega, by
    have e0 : ((n : Int) - 0).toNat = n := by omega
    rw [e0]
    exact for_rangeC (lo := 0 + (n : Int) - 1) (c := -1) (n := n) Pv (h0 H1 e) (fun i σ' H' hi p => by
      have e1 : (0 : Int) + (n : Int) - 1 + (i : Int) * (-1) = ((n - 1 - i : Nat) : Int) := by omega
      show tu { D with nx := Pv (i + 1), ct := Pv (i + 1), bk := D.nx } (σ'.set j (some (.int ((0 : Int) + (n : Int) - 1 + (i : Int) * (-1))))) H'
      rw [e1]
      exact hs i σ' H' hi p) hd⟩
theorem q_forRev {j n : Nat} (h : Ev te σ H (.int (n : Int))) (hn : n ≤ 100000) (Pv : Nat → L2.St → Hp → Prop) (h0 : ∀ H1, Ex H H1 → Pv 0 σ H1)
    (hs : ∀ (i : Nat) σ' H', i < n → Pv i σ' H' → tu { D with nx := Pv (i + 1), ct := Pv (i + 1), bk := tz D } (σ'.set j (some (.int ((n - 1 - i : Nat) : Int)))) H') (hd : ∀ σ' H', Pv n σ' H' → tz D σ' H') : tSeq (tFor (iRevR (tRg1 te)) (gName j) tu) tz D σ H :=
  s_forRev (D := { D with nx := tz D }) h hn Pv h0 hs hd
end
/-! ### is_tree, check_tree -/
def treeB (S : List Sg) (ns : List Int) : Bool := decide ((ns.length : Int) ≤ 40) && runB S 1 ns
theorem treeB_row {S : List Sg} {t : Tr} (h : OkT S t) (hl : t.size ≤ 40) : treeB S (ofN t.row) = true := by
  unfold treeB
  rw [runB_row h, ofN_len, decide_eq_true (by unfold Tr.size at hl; omega)]
  rfl
/-! ### sizes_of -/
def nums (r : List Nat) : List V := r.map fun (s : Nat) => V.int (s : Int)
theorem nums_len (r : List Nat) : (nums r).length = r.length := List.length_map _
theorem nums_app (r q : List Nat) : nums (r ++ q) = nums r ++ nums q := List.map_append
theorem nums_at {r : List Nat} {j s : Nat} (h : r[j]? = some s) : (nums r)[j]? = some (.int (s : Int)) := by
  unfold nums
  rw [List.getElem?_map, h]
  rfl
theorem nums_dts {K : PySem.W.Frag} {M : Addr → Prop} {H : Hp} (r : List Nat) : Dts K M H (nums r) ((ofN r).map PyData.int) := by
  have e : nums r = (ofN r).map V.int := by
    unfold nums ofN
    rw [List.map_map]
    rfl
  rw [e]
  exact Dts.of_ints _
def intsD (r : List Nat) : PyData := .list ((ofN r).map PyData.int)
/-! ### data by its size and its depth -/
theorem lay_all : ∀ {ds : List PyData}, (∀ d ∈ ds, d.canLay0 = true) → PyData.canLayAll0 ds = true
  | [], _ => rfl
  | d :: ds, h => by
    rw [PyData.canLayAll0, h d List.mem_cons_self, lay_all fun e he => h e (List.mem_cons_of_mem _ he)]
    rfl
theorem depth_all {n : Nat} : ∀ {ds : List PyData}, (∀ d ∈ ds, d.depth ≤ n) → PyData.depthAll ds ≤ n
  | [], _ => Nat.zero_le _
  | d :: ds, h => by
    rw [PyData.depthAll]
    exact Nat.max_le.mpr ⟨h d List.mem_cons_self, depth_all fun e he => h e (List.mem_cons_of_mem _ he)⟩
/-- data that may be laid, of a small depth -/
structure Flat (n : Nat) (d : PyData) : Prop where
  lay : d.canLay0 = true
  depth : d.depth ≤ n
theorem flat_int (i : Int) : Flat 0 (.int i) := ⟨rfl, Nat.le_refl _⟩
theorem flat_list {n : Nat} {ds : List PyData} (h : ∀ d ∈ ds, Flat n d) : Flat (n + 1) (.list ds) :=
  ⟨by rw [PyData.canLay0]; exact lay_all fun d hd => (h d hd).lay, by rw [PyData.depth]; have := depth_all fun d hd => (h d hd).depth; omega⟩
theorem flat_tup {n : Nat} {ds : List PyData} (h : ∀ d ∈ ds, Flat n d) : Flat (n + 1) (.tuple ds) :=
  ⟨by rw [PyData.canLay0]; exact lay_all fun d hd => (h d hd).lay, by rw [PyData.depth]; have := depth_all fun d hd => (h d hd).depth; omega⟩
theorem flat_tupI (ns : List Int) : Flat 1 (tupI ns) := flat_tup fun d hd => by
  obtain ⟨i, _, rfl⟩ := List.mem_map.mp hd
  exact flat_int i
theorem Flat.shaped {n : Nat} {d : PyData} (h : Flat n d) (hn : n ≤ 20) : SeqAt.shaped d = true := by
  unfold SeqAt.shaped
  rw [h.lay, decide_eq_true (by have := h.depth; omega)]
  rfl
theorem Flat.self {n : Nat} {d : PyData} (h : Flat n d) : PyData.eqv d d = true := SeqAt.eqv_refl _ h.lay
section
variable {K : PySem.W.Frag} {M M' : Addr → Prop} {H H1 H' : Hp} {σ : L2.St} {ta tb te tc : TE} {v : V} {d1 d2 : PyData}
theorem evd_eqD {n m : Nat} (ha : EvD K M ta σ H d1) (hb : EvD K M tb σ H d2) (f1 : Flat n d1) (f2 : Flat m d2) (hn : n ≤ 20 := by decide) (hm : m ≤ 20 := by decide) : EvD K M (tOp (rEqD K) ta tb) σ H (.bool (PyData.eqv d1 d2)) :=
  evp_op ha hb fun x y a b H1 e dx dy px py Q q => by
    subst px py
    exact ⟨_, _, dx.dp, dy.dp, f1.shaped hn, f2.shaped hm, q _ _ H1 (Ex.refl _) (.bl _) rfl⟩
theorem evd_neD {n m : Nat} (ha : EvD K M ta σ H d1) (hb : EvD K M tb σ H d2) (f1 : Flat n d1) (f2 : Flat m d2) (hn : n ≤ 20 := by decide) (hm : m ≤ 20 := by decide) : EvD K M (tOp (rNeD K) ta tb) σ H (.bool (!PyData.eqv d1 d2)) :=
  evp_op ha hb fun x y a b H1 e dx dy px py Q q => by
    subst px py
    exact ⟨_, _, dx.dp, dy.dp, f1.shaped hn, f2.shaped hm, q _ _ H1 (Ex.refl _) (.bl _) rfl⟩
/-- tuples put together, a part of a tuple -/
theorem evd_catA {ds es : List PyData} (ha : EvD K M ta σ H (.tuple ds)) (hb : EvD K M tb σ H (.tuple es)) (hs : ds.length + es.length ≤ 100000) : EvD K M (tOp (rCatA K) ta tb) σ H (.tuple (ds ++ es)) :=
  evp_op ha hb fun x y a b H1 e dx dy px py Q q => by
    subst px py
    cases dx with
    | tup h1 h3 =>
      cases dy with
      | tup k1 k3 =>
        refine ⟨_, _, _, _, rfl, rfl, SqT.of h1, SqT.of k1, by rw [h3.length, k3.length]; exact sz_of hs, fun e0 => ?_, fun _ e0 => ?_, fun _ _ p hp => q _ _ _ (Ex.new hp) (.tup upd_same ((h3.append k3).ex (Ex.new hp))) rfl⟩
        · subst e0
          cases h3
          exact q _ _ H1 (Ex.refl _) (.tup k1 k3) rfl
        · subst e0
          cases k3
          exact q _ _ H1 (Ex.refl _) (.tup h1 h3) (by rw [List.append_nil])
theorem evd_slT {ds : List PyData} {tl th : TO} {lo hi : Option Int} (ha : EvD K M ta σ H (.tuple ds)) (hl : EvPO K M tl σ H lo) (hh : EvPO K M th σ H hi) : EvD K M (tSl (rSlA K) ta tl th) σ H (.tuple (cutG ds lo hi)) := fun H1 e Q q =>
  ha H1 e _ fun v d H2 e2 dv pd => hl H2 (e.trans e2) _ fun H3 e3 => hh H3 ((e.trans e2).trans e3) _ fun H4 e4 => by
    subst pd
    cases dv.ex (e3.trans e4) with
    | tup h1 h3 =>
      refine ⟨_, _, rfl, SqT.of h1, fun hw => q _ _ H4 ((e2.trans e3).trans e4) (.tup h1 h3) ?_, fun _ p hp => q _ _ _ (((e2.trans e3).trans e4).trans (Ex.new hp)) (.tup upd_same (h3.cut.ex (Ex.new hp))) rfl⟩
      unfold cutG
      rw [h3.length] at hw
      rw [hw.1, hw.2, List.drop_zero, Nat.sub_zero, List.take_length]
theorem cutG_nat {α : Type} (xs : List α) (i j : Nat) (h : i ≤ j) (hj : j ≤ xs.length) : cutG xs (some (i : Int)) (some (j : Int)) = (xs.drop i).take (j - i) := by
  unfold cutG
  rw [HT.sIx_nat, HT.sIx_nat, Nat.min_eq_left (Nat.le_trans h hj), Nat.min_eq_left hj]
theorem cutG_to {α : Type} (xs : List α) (j : Nat) (hj : j ≤ xs.length) : cutG xs none (some (j : Int)) = xs.take j := by
  unfold cutG
  rw [HT.sIx_nat, HT.sIx_none, Nat.min_eq_left hj]
  rfl
theorem cutG_from {α : Type} (xs : List α) (i : Nat) (hj : i ≤ xs.length) : cutG xs (some (i : Int)) none = xs.drop i := by
  unfold cutG
  rw [HT.sIx_nat, HT.sIx_none, Nat.min_eq_left hj, List.take_of_length_le (by rw [List.length_drop]; exact Nat.le_refl _)]
/-- a test of which something is known -/
def EvTP (tt : TT) (σ : L2.St) (H : Hp) (PB : Bool → Prop) : Prop := ∀ H1, Ex H H1 → ∀ Q : Bool → Hp → Prop, (∀ b H2, Ex H1 H2 → PB b → Q b H2) → tt σ H1 Q
theorem evtp_of {t : TT} {b : Bool} (h : EvT t σ H b) : EvTP t σ H (· = b) := fun H1 e Q q => h H1 e Q fun H2 e2 => q b H2 e2 rfl
theorem evtp_test {PB : Bool → Prop} (h : EvP K M te σ H (fun d => ∃ b, d = .bool b ∧ PB b)) : EvTP (tTest te) σ H PB := fun H1 e Q q => h H1 e _ fun v d H2 e2 dv pd => by
  obtain ⟨b, rfl, pb⟩ := pd
  cases dv
  exact ⟨b, rfl, q b H2 e2 pb⟩
theorem evtp_or {t u : TT} {PA PB : Bool → Prop} (h1 : EvTP t σ H PA) (h2 : PA false → EvTP u σ H PB) : EvTP (tOr t u) σ H (fun b => PA true ∧ b = true ∨ PA false ∧ PB b) := fun H1 e Q q => h1 H1 e _ fun b H2 e2 pb => by
  cases b with
  | true => exact q true H2 e2 (.inl ⟨pb, rfl⟩)
  | false => exact h2 pb H2 (e.trans e2) Q fun b H3 e3 p3 => q b H3 (e2.trans e3) (.inr ⟨pb, p3⟩)
theorem EvTP.mono {t : TT} {PA PB : Bool → Prop} (h : EvTP t σ H PA) (k : ∀ b, PA b → PB b) : EvTP t σ H PB := fun H1 e Q q => h H1 e Q fun b H2 e2 pb => q b H2 e2 (k b pb)
theorem s_whenP {t : TT} {tu : TS} {D : Ends} {PB : Bool → Prop} (h : EvTP t σ H PB) (h1 : PB true → ∀ H1, Ex H H1 → tu D σ H1) (h2 : PB false → ∀ H1, Ex H H1 → D.nx σ H1) : tIfS t tu tNext D σ H := h H (Ex.refl H) _ fun b H1 e pb => by
  cases b with
  | true => exact h1 pb H1 e
  | false => exact h2 pb H1 e
theorem eqv_list (ds es : List PyData) : PyData.eqv (.list ds) (.list es) = PyData.eqvAll ds es := by rw [PyData.eqv]
theorem eqv_tup (ds es : List PyData) : PyData.eqv (.tuple ds) (.tuple es) = PyData.eqvAll ds es := by rw [PyData.eqv]
theorem eqv_tupI (ns ms : List Int) : PyData.eqv (tupI ns) (tupI ms) = decide (ns = ms) := by
  unfold tupI
  rw [eqv_tup, eqv_ints]
theorem flat_intsD (c : List Nat) : Flat 1 (intsD c) := flat_list fun d hd => by
  obtain ⟨i, _, rfl⟩ := List.mem_map.mp hd
  exact flat_int i
theorem eqv_nil (c : List Nat) : PyData.eqv (intsD c) (.list []) = decide (c = []) := by
  unfold intsD
  rw [eqv_list, show ([] : List PyData) = ([] : List Int).map PyData.int from rfl, eqv_ints]
  unfold ofN
  cases c with
  | nil => rfl
  | cons a c => rfl
/-- how many kids, by the list of signs -/
theorem evd_ar {S : List Sg} {i k j : Nat} {z : Int} {v : V} {q : Sg} (hs : σ[i]? = some (some v)) (hv : Dt K M H v (.list (S.map sgD))) (hz : EvD K M te σ H (.int z)) (ez : z = (j : Int)) (hq : S[j]? = some q) :
    EvD K M (tOp (rIxT K) (tOp (rIxL K) (tVar i) te) (tC (.int 1))) σ H (.int q.2) :=
  evd_ixT (j := 1) (ds := [.str q.1, .int q.2]) ((evd_ixL (j := j) (d := sgD q) (evd_var hs hv) hz ez (by rw [List.getElem?_map, hq]; rfl)).mono fun d h => h) evd_int rfl rfl
end
structure GlobU (mg : Str → Option Value) : Prop where
  tuple : mg "tuple" = none
end TH
set_option maxRecDepth 100000
set_option maxHeartbeats 4000000
namespace TH
open PySem L2 Evl
abbrev sLReader : Stmt := top 43
abbrev sLLed : Stmt := top 45
/-! ### plain readers -/
structure Pl where
  moods : Nat
  tables : List (List Nat)
  liked : List Nat
def plD (R : Pl) : PyData := .tuple [.int (R.moods : Int), .list (R.tables.map intsD), intsD R.liked]
structure Wf (S : List Sg) (R : Pl) : Prop where
  m1 : 1 ≤ R.moods
  len : R.tables.length = S.length
  tab : ∀ (s : Nat) (tb : List Nat), R.tables[s]? = some tb → tb.length = R.moods ^ ks S s ∧ ∀ m ∈ tb, m < R.moods
  lik : R.liked.Pairwise (· < ·)
  likm : ∀ m ∈ R.liked, m < R.moods
structure GoodR (S : List Sg) (R : Pl) : Prop extends Wf S R where
  m6 : R.moods ≤ 40
def spotN (m : Nat) (k : List Nat) : Nat := k.foldl (fun a x => a * m + x) 0
def ledN (R : Pl) (s : Nat) (k : List Nat) : Nat := (R.tables.getD s []).getD (spotN R.moods k) 0
theorem fold_lt {m : Nat} : ∀ (k : List Nat) (a j : Nat), a < m ^ j → (∀ x ∈ k, x < m) → k.foldl (fun a x => a * m + x) a < m ^ (j + k.length)
  | [], a, j, h, _ => h
  | x :: k, a, j, h, hx => by
    have h1 := hx x List.mem_cons_self
    have h2 : a * m + x < m ^ (j + 1) := by
      rw [Nat.pow_succ]
      calc a * m + x < a * m + m := by omega
        _ = (a + 1) * m := by rw [Nat.succ_mul]
        _ ≤ m ^ j * m := Nat.mul_le_mul_right m h
    have := fold_lt k (a * m + x) (j + 1) h2 fun y hy => hx y (List.mem_cons_of_mem _ hy)
    rw [List.length_cons, show j + (k.length + 1) = j + 1 + k.length by omega]
    exact this
theorem spotN_lt {m : Nat} {k : List Nat} (hk : ∀ x ∈ k, x < m) : spotN m k < m ^ k.length := by
  have := fold_lt k 0 0 (by rw [Nat.pow_zero]; exact Nat.one_pos) hk
  rw [Nat.zero_add] at this
  exact this
theorem Wf.led {S : List Sg} {R : Pl} (h : Wf S R) {s : Nat} {k : List Nat} (hs : s < S.length) (hk : k.length = ks S s) (hm : ∀ x ∈ k, x < R.moods) : ∃ tb, R.tables[s]? = some tb ∧ tb[spotN R.moods k]? = some (ledN R s k) ∧ ledN R s k < R.moods := by
  have hs' : s < R.tables.length := by rw [h.len]; exact hs
  have ht : R.tables[s]? = some (R.tables[s]'hs') := List.getElem?_eq_getElem _
  obtain ⟨h1, h2⟩ := h.tab s _ ht
  have h3 := spotN_lt hm
  rw [hk, ← h1] at h3
  have h4 : (R.tables[s]'hs')[spotN R.moods k]? = some ((R.tables[s]'hs')[spotN R.moods k]'h3) := List.getElem?_eq_getElem _
  have e : ledN R s k = (R.tables[s]'hs')[spotN R.moods k]'h3 := by
    unfold ledN
    have e1 : R.tables.getD s [] = R.tables[s]'hs' := by
      rw [List.getD_eq_getElem?_getD, ht]
      rfl
    rw [e1, List.getD_eq_getElem?_getD, h4]
    rfl
  refine ⟨_, ht, by rw [e]; exact h4, ?_⟩
  rw [e]
  exact h2 _ (List.mem_of_getElem? h4)
def moodT (R : Pl) : Tr → Nat
  | .n0 s => ledN R s []
  | .n1 s t => ledN R s [moodT R t]
  | .n2 s t u => ledN R s [moodT R t, moodT R u]
theorem moodT_eq (R : Pl) (t : Tr) : moodT R t = ledN R t.root (t.kids.map (moodT R)) := by
  cases t <;> rfl
theorem Wf.mood {S : List Sg} {R : Pl} (h : Wf S R) : ∀ t : Tr, OkT S t → moodT R t < R.moods := by
  intro t
  induction t with
  | n0 s =>
    intro ho
    obtain ⟨_, _, _, hl⟩ := h.led (s := s) (k := []) ho.1 ho.2.symm (fun x hx => nomatch hx)
    exact hl
  | n1 s t ih =>
    intro ho
    obtain ⟨_, _, _, hl⟩ := h.led (s := s) (k := [moodT R t]) ho.1 ho.2.1.symm (fun x hx => by rw [List.mem_singleton.mp hx]; exact ih ho.2.2)
    exact hl
  | n2 s t u ih1 ih2 =>
    intro ho
    obtain ⟨_, _, _, hl⟩ := h.led (s := s) (k := [moodT R t, moodT R u]) ho.1 ho.2.1.symm (fun x hx => by
      rcases List.mem_cons.mp hx with rfl | hx
      · exact ih1 ho.2.2.1
      · rw [List.mem_singleton.mp hx]
        exact ih2 ho.2.2.2)
    exact hl
/-! ### comprehensions by what is made so far -/
section
variable {K : PySem.W.Frag} {M M' : Addr → Prop} {H H1 H' : Hp} {σ : L2.St} {ta tb te tl : TE} {tt : TT} {g : TG} {vs : List Nat} {D : Ends} {tz tu : TS}
/-- what a turn gives: perhaps an item more -/
def TurnI (K : PySem.W.Frag) (M : Addr → Prop) (σ : L2.St) (vs : List Nat) (tt : TT) (te : TE) (I : List PyData → Prop) (es : List PyData) (σ2 : L2.St) (H2 : Hp) : Prop :=
  wipe σ2 vs = wipe σ vs ∧ ∀ H3, Ex H2 H3 → ∀ Q : Bool → Hp → Prop, (∀ b H4, Ex H3 H4 → (b = true → EvP K M te σ2 H4 (fun e => I (es ++ [e]))) → (b = false → I es) → Q b H4) → tt σ2 H3 Q
theorem lc_dataI {n : Nat} {J : It} {G : Hp → Prop} {Y : Nat → Hp → V → Hp → Prop} (w : Walk J n G Y) {A : Addr} {Qd : Hp → Prop} (ok : Ok M H1) (hD : H1 A = none) (hn : n < sizeLine)
    (I : Nat → List PyData → Prop) (h0 : I 0 []) (hG : ∀ H, Ex H1 H → G H)
    (hs : ∀ (M' : Addr → Prop) (i : Nat) (es : List PyData) (x : V) (H H' : Hp), (∀ v d, Dt K M H1 v d → Dt K M' H1 v d) → Ok M' H → i < n → I i es → Ex H1 H → Y i H x H' →
      ∀ Qg : L2.St → Hp → Prop, (∀ σ2 H2, Ex H H2 → TurnI K M' σ vs tt te (I (i + 1)) es σ2 H2 → Qg σ2 H2) → g x (wipe σ vs) H' Qg)
    (q : ∀ H es, Ex H1 H → Dt K M H (.ref A) (.list es) → I n es → Qd H) :
    ∃ W : Nat → Nat → Hp → Prop, (∃ m, W 0 m (upd H1 A (.lst []))) ∧ ∀ i m H, W i m H →
      (J.stop i H ∧ Qd H) ∨ (J.go i H ∧ ∃ Nx : Hp → Prop, (∀ H', Nx H' → ∃ m', m' < m ∧ W (i + 1) m' H') ∧ ∀ x H', J.yld i H x H' → g x (wipe σ vs) H' fun σ2 H2 => wipe σ2 vs = wipe σ vs ∧ tt σ2 H2 fun b H3 =>
        if b = true then te σ2 H3 fun y H4 => ∃ acc, H4 A = some (.lst acc) ∧ acc.length < sizeLine ∧ Nx (upd H4 A (.lst (acc ++ [y]))) else Nx H3) := by
  have ok' : ∀ {H}, Ex H1 H → H A ≠ none → Ok (TH.more M A) H := fun {H} e n l m => by
    rcases m with m | rfl
    · exact (ok.ex e) l m
    · exact n
  refine lc_it w (fun i H => Ex H1 H ∧ ∃ acc es, H A = some (.lst acc) ∧ Dts K (TH.more M A) H acc es ∧ I i es ∧ es.length ≤ i)
    ⟨Ex.new hD, [], [], upd_same, .nil, h0, Nat.le_refl _⟩ (fun i H _ p => hG H p.1) (fun i x H H' hi p y => ?_) (fun H p => ?_)
  · obtain ⟨e, acc, es, hacc, dacc, pI, pl⟩ := p
    refine hs (TH.more M A) i es x H H' (fun v d h => h.more hD) (ok' e (by rw [hacc]; simp)) hi pI e y _ fun σ2 H2 e2 T => ?_
    obtain ⟨hw, ht⟩ := T
    refine ⟨hw, ht H2 (Ex.refl _) _ fun b H3 e3 hb1 hb2 => ?_⟩
    have e03 := e2.trans e3
    have lacc : acc.length ≤ i := by
      rw [dacc.length]
      exact pl
    cases b with
    | true =>
      refine iteT (hb1 rfl H3 (Ex.refl _) _ fun y d H4 e4 dy py => ?_)
      refine ⟨acc, e4 _ _ (e03 _ _ hacc), Nat.lt_of_le_of_lt lacc (Nat.lt_trans hi hn), ?_, acc ++ [y], es ++ [d], upd_same, ?_, py, ?_⟩
      · exact Ex.mut ((e.trans e03).trans e4) hD
      · exact (((dacc.ex (e03.trans e4))).append (.one dy)).upd (e4 _ _ (e03 _ _ hacc)) (.inr rfl)
      · rw [List.length_append]
        show es.length + 1 ≤ _
        omega
    | false => exact iteF ⟨e.trans e03, acc, es, e03 _ _ hacc, dacc.ex e03, hb2 rfl, by omega⟩
  · obtain ⟨e, acc, es, hacc, dacc, pI, pl⟩ := p
    exact q H es e (.lst hacc (ok.new hD) (dacc.weak more_sub)) pI
/-- what gives a new list -/
def EvNew (K : PySem.W.Frag) (M : Addr → Prop) (te : TE) (σ : L2.St) (H : Hp) (P : List PyData → Prop) : Prop :=
  ∀ H1, Ex H H1 → ∀ Q : VK, (∀ l xs ds H2, H1 l = none → Ex H1 H2 → H2 l = some (.lst xs) → Dts K M H2 xs ds → P ds → Q (.ref l) H2) → te σ H1 Q
theorem EvNew.mono {P P' : List PyData → Prop} (h : EvNew K M te σ H P) (k : ∀ ds, P ds → P' ds) : EvNew K M te σ H P' := fun H1 e Q q => h H1 e Q fun l xs ds H2 h1 h2 h3 h4 h5 => q l xs ds H2 h1 h2 h3 h4 (k _ h5)
theorem EvNew.data {P : List PyData → Prop} (ok : Ok M H) (h : EvNew K M te σ H P) : EvP K M te σ H (fun d => ∃ ds, d = .list ds ∧ P ds) := fun H1 e Q q => h H1 e Q fun l xs ds H2 h1 h2 h3 h4 h5 => q _ _ H2 h2 (.lst h3 ((ok.ex e).new h1) h4) ⟨ds, rfl, h5⟩
/-- [.. for i in range(n) ..] by what is made so far -/
theorem evn_lcRI {ta : TA} {n : Nat} (I : Nat → List PyData → Prop) (ok : Ok M H) (hl : EvDA K M ta σ H [.int (n : Int)]) (hz : n ≤ 100000) (h0 : I 0 [])
    (hs : ∀ (M' : Addr → Prop) (i : Nat) (es : List PyData) (H' : Hp), (∀ v d, Dt K M H v d → Dt K M' H' v d) → Ok M' H' → i < n → I i es → Ex H H' →
      ∀ Qg : L2.St → Hp → Prop, (∀ σ2 H2, Ex H' H2 → TurnI K M' σ vs tt te (I (i + 1)) es σ2 H2 → Qg σ2 H2) → g (.int (i : Int)) (wipe σ vs) H' Qg) :
    EvNew K M (tLc (iRng1 ta) g tt te vs) σ H (I n) := fun H0 e Q q =>
  hl H0 e _ fun us ds H1 e1 dv pd => by
    subst pd
    cases dv with
    | cons h1 h2 =>
      cases h1
      cases h2
      refine ⟨(n : Int), rfl, by omega, by omega, fun A hA => ?_⟩
      have hw : Walk (Itr 0 ((n : Int).toNat)) n (fun _ => True) (YFn fun i => .int (0 + i)) := by
        rw [Int.toNat_natCast]
        exact walk_range
      refine lc_dataI (K := K) (σ := σ) (vs := vs) hw (ok.ex (e.trans e1)) hA (Nat.lt_of_le_of_lt hz (by decide)) I h0 (fun H e => trivial) (fun M' i es x H2 H' hm ok' hi hI e2 y Qg qg => ?_) (fun H2 es e2 dd hI => ?_)
      · obtain ⟨rfl, rfl⟩ := y
        show g (V.int (0 + (i : Int))) (wipe σ vs) _ Qg
        rw [Int.zero_add]
        exact hs M' i es _ (fun v d h => (hm v d (h.ex (e.trans e1))).ex e2) ok' hi hI ((e.trans e1).trans e2) Qg qg
      · cases dd with
        | lst w1 w2 w3 => exact q A _ es H2 (fresh_back e1 hA) (e1.trans e2) w1 w3 hI
theorem q_asgN {i : Nat} {P : List PyData → Prop} (h : EvNew K M te σ H P) (k : ∀ l xs ds H1, H l = none → Ex H H1 → H1 l = some (.lst xs) → Dts K M H1 xs ds → P ds → tz D (σ.set i (some (.ref l))) H1) : tSeq (tAsg te (gName i)) tz D σ H := h H (Ex.refl H) _ k
end
theorem dts_intsN {K : PySem.W.Frag} {M : Addr → Prop} {H : Hp} {r : List Nat} {xs : List V} (h : Dts K M H xs ((ofN r).map PyData.int)) : xs = nums r := by
  have := Dts.ints _ h
  rw [this]
  unfold nums ofN
  rw [List.map_map]
  rfl
end TH
set_option maxRecDepth 100000
set_option maxHeartbeats 4000000
namespace TH
open PySem L2 Evl
def b2i (b : Bool) : Int := if b = true then 1 else 0
section
variable {K : PySem.W.Frag} {M M' : Addr → Prop} {H H1 H' : Hp} {σ : L2.St} {ta tb te tc tl : TE} {tt : TT} {g : TG} {vs : List Nat} {tr : TA} {D : Ends} {tz tu : TS}
theorem filter_all {α : Type} : ∀ l : List α, l.filter (fun _ => true) = l
  | [] => rfl
  | a :: l => by rw [List.filter_cons_of_pos rfl, filter_all l]
theorem evd_intB {b : Bool} (h : EvD K M te σ H (.bool b)) : EvD K M (tCB (fun xs H Q => (∃ i, xs = [.int i] ∧ Q (.int i) H) ∨ ∃ k, xs = [.bl k] ∧ Q (.int (if k then 1 else 0)) H) (tCons te tNil)) σ H (.int (b2i b)) := fun H1 e Q q =>
  h H1 e _ fun v d H2 e2 dv pd => by
    subst pd
    cases dv
    refine .inr ⟨b, rfl, ?_⟩
    have : (if b = true then (1 : Int) else 0) = b2i b := rfl
    rw [this]
    exact q _ _ H2 e2 (.int _) rfl
theorem evp_catA {PA PB : PyData → Prop} (ha : EvP K M ta σ H PA) (hb : EvP K M tb σ H PB) (hp : ∀ a b, PA a → PB b → ∃ ds es, a = .tuple ds ∧ b = .tuple es ∧ ds.length + es.length ≤ 100000) :
    EvP K M (tOp (rCatA K) ta tb) σ H (fun d => ∃ ds es, PA (.tuple ds) ∧ PB (.tuple es) ∧ d = .tuple (ds ++ es)) :=
  evp_op ha hb fun x y a b H1 e dx dy px py Q q => by
    obtain ⟨ds, es, rfl, rfl, hs⟩ := hp a b px py
    cases dx with
    | tup h1 h3 =>
      cases dy with
      | tup k1 k3 =>
        refine ⟨_, _, _, _, rfl, rfl, SqT.of h1, SqT.of k1, by rw [h3.length, k3.length]; exact sz_of hs, fun e0 => ?_, fun _ e0 => ?_, fun _ _ p hp => q _ _ _ (Ex.new hp) (.tup upd_same ((h3.append k3).ex (Ex.new hp))) ⟨_, _, px, py, rfl⟩⟩
        · subst e0
          cases h3
          exact q _ _ H1 (Ex.refl _) (.tup k1 k3) ⟨_, _, px, py, rfl⟩
        · subst e0
          cases k3
          exact q _ _ H1 (Ex.refl _) (.tup h1 h3) ⟨_, _, px, py, by rw [List.append_nil]⟩
theorem evn_lcL {ds : List PyData} (f : PyData → Bool) (F : PyData → PyData) (ok : Ok M H) (hl : EvD K M tl σ H (.list ds)) (hz : ds.length < sizeLine)
    (hs : ∀ (M' : Addr → Prop) (d : PyData) (x : V) (H' : Hp), (∀ v d, Dt K M H v d → Dt K M' H' v d) → Ok M' H' → d ∈ ds → Ex H H' → Dt K M' H' x d →
      ∀ Qg : L2.St → Hp → Prop, (∀ σ2 H2, Ex H' H2 → Turned K M' σ vs tt te (f d) (· = F d) σ2 H2 → Qg σ2 H2) → g x (wipe σ vs) H' Qg) :
    EvNew K M (tLc (iList K tl) g tt te vs) σ H (· = (ds.filter f).map F) := fun H0 e Q q =>
  hl H0 e _ fun v d H1 e1 dv pd => by
    subst pd
    cases dv with
    | lst h1 h2 h3 =>
      rename_i a xs
      refine ⟨a, rfl, ⟨xs, sq_of h1⟩, fun D hD => ?_⟩
      have hw : Walk (Itl K a) ds.length (fun H => SqL K H a xs) (YAt xs) := by
        rw [← h3.length]
        exact walk_list
      refine lc_data (K := K) (σ := σ) (vs := vs) ds hw ((ok.ex (e.trans e1))) hD hz f (fun d e => e = F d) (fun H e => sq_of (e _ _ h1)) (fun M' i d x H2 H' hm ok' hd e2 y Qg qg => ?_) (fun H2 es e2 dd pr => ?_)
      · obtain ⟨rfl, hx⟩ := y
        obtain ⟨d', hd', dx⟩ := h3.get hx
        rw [hd] at hd'
        cases hd'
        exact hs M' d x _ (fun v d h => (hm v d (h.ex (e.trans e1))).ex e2) ok' (List.mem_of_getElem? hd) ((e.trans e1).trans e2) ((hm _ _ dx).ex e2) Qg qg
      · cases dd with
        | lst w1 w2 w3 => exact q D _ es H2 (fresh_back e1 hD) (e1.trans e2) w1 w3 (paired_map pr)
theorem op_catAK {X : Cx} (h : X.K = K) : OpR X (binaryOp .Add) (rCatA K) := by
  subst h
  exact op_catA
theorem call_len_seqK {X : Cx} (h : X.K = K) : CallR X (.builtin "len") (fun xs H Q => ∃ p ys, xs = [.ref p] ∧ (SqL K H p ys ∨ SqT K H p ys) ∧ Q (.int ys.length) H) := by
  subst h
  exact call_len_seq
theorem s_retOp {r : R2} {ta tb : TE} {σ : L2.St} {H : Hp} {D : Ends} (h : ta σ H fun x H1 => tb σ H1 fun y H2 => r x y H2 D.rt) : tRet (tOp r ta tb) D σ H := h
theorem s_forR2 {K : PySem.W.Frag} {M : Addr → Prop} {σ : L2.St} {H : Hp} {D : Ends} {tu : TS} {ta : TA} {j : Nat} {lo hi : Int} (h : EvDA K M ta σ H [.int lo, .int hi]) (h1 : -100000 ≤ lo ∧ lo ≤ 100000 ∧ -100000 ≤ hi ∧ hi ≤ 100000) (Pv : Nat → L2.St → Hp → Prop) (h0 : ∀ H1, Ex H H1 → Pv 0 σ H1)
    (hs : ∀ (i : Nat) σ' H', i < (hi - lo).toNat → Pv i σ' H' → tu { D with nx := Pv (i + 1), ct := Pv (i + 1), bk := D.nx } (σ'.set j (some (.int (lo + i)))) H') (hd : ∀ σ' H', Pv (hi - lo).toNat σ' H' → D.nx σ' H') : tFor (iRng2 ta) (gName j) tu D σ H :=
  h.use fun vs ds H1 e1 dv pd => by
    subst pd
    cases dv with
    | cons d1 d2 =>
    cases d2 with
    | cons d2 d3 =>
    cases d3
    cases d1
    cases d2
    exact ⟨lo, hi, rfl, ⟨by omega, by omega, by omega, by omega⟩, for_range Pv (h0 H1 e1) (fun i σ' H' hi p => hs i σ' H' hi p) hd⟩
theorem q_forR2 {K : PySem.W.Frag} {M : Addr → Prop} {σ : L2.St} {H : Hp} {D : Ends} {tu tz : TS} {ta : TA} {j : Nat} {lo hi : Int} (h : EvDA K M ta σ H [.int lo, .int hi]) (h1 : -100000 ≤ lo ∧ lo ≤ 100000 ∧ -100000 ≤ hi ∧ hi ≤ 100000) (Pv : Nat → L2.St → Hp → Prop) (h0 : ∀ H1, Ex H H1 → Pv 0 σ H1)
    (hs : ∀ (i : Nat) σ' H', i < (hi - lo).toNat → Pv i σ' H' → tu { D with nx := Pv (i + 1), ct := Pv (i + 1), bk := tz D } (σ'.set j (some (.int (lo + i)))) H') (hd : ∀ σ' H', Pv (hi - lo).toNat σ' H' → tz D σ' H') : tSeq (tFor (iRng2 ta) (gName j) tu) tz D σ H :=
  s_forR2 (D := { D with nx := tz D }) h h1 Pv h0 hs hd
theorem evd_sum {r : List Int} (h : EvD K M te σ H (.list (r.map PyData.int))) : EvD K M (tCB (rSum K) (tCons te tNil)) σ H (.int r.sum) := fun H1 e Q q =>
  h H1 e _ fun v d H2 e2 dv pd => by
    subst pd
    cases dv with
    | lst h1 h2 h3 =>
      have ew := Dts.ints r h3
      subst ew
      exact ⟨_, r, rfl, sq_of h1, q _ _ H2 e2 (.int _) rfl⟩
theorem q_forR2b {ta : TA} {j : Nat} {lo hi : Int} (h : EvDA K M ta σ H [.int lo, .int hi]) (h1 : -100000 ≤ lo ∧ lo ≤ 100000 ∧ -100000 ≤ hi ∧ hi ≤ 100000) (Pv : Nat → L2.St → Hp → Prop) (Fin : L2.St → Hp → Prop) (h0 : ∀ H1, Ex H H1 → Pv 0 σ H1)
    (hs : ∀ (i : Nat) σ' H', i < (hi - lo).toNat → Pv i σ' H' → ∀ T : L2.St → Hp → Prop, (∀ σ2 H2, Fin σ2 H2 → T σ2 H2) → tu { D with nx := Pv (i + 1), ct := Pv (i + 1), bk := T } (σ'.set j (some (.int (lo + i)))) H')
    (hd : ∀ σ' H', Pv (hi - lo).toNat σ' H' → Fin σ' H') (hf : ∀ σ' H', Fin σ' H' → tz D σ' H') : tSeq (tFor (iRng2 ta) (gName j) tu) tz D σ H :=
  q_forR2 h h1 Pv h0 (fun i σ' H' hi p => hs i σ' H' hi p (tz D) hf) fun σ' H' p => hf σ' H' (hd σ' H' p)
/-- a comprehension over a list whose data are told by something -/
theorem evn_lcM {β : Type} {bs : List β} (enc F : β → PyData) (ok : Ok M H) (hl : EvD K M tl σ H (.list (bs.map enc))) (hz : bs.length < sizeLine)
    (hs : ∀ (M' : Addr → Prop) (b : β) (x : V) (H' : Hp), (∀ v d, Dt K M H v d → Dt K M' H' v d) → Ok M' H' → b ∈ bs → Ex H H' → Dt K M' H' x (enc b) →
      ∀ Qg : L2.St → Hp → Prop, (∀ σ2 H2, Ex H' H2 → Turned K M' σ vs tt te true (· = F b) σ2 H2 → Qg σ2 H2) → g x (wipe σ vs) H' Qg) :
    EvNew K M (tLc (iList K tl) g tt te vs) σ H (· = bs.map F) := fun H0 e Q q =>
  hl H0 e _ fun v d H1 e1 dv pd => by
    subst pd
    cases dv with
    | lst h1 h2 h3 =>
      rename_i a xs
      refine ⟨a, rfl, ⟨xs, sq_of h1⟩, fun D hD => ?_⟩
      have hw : Walk (Itl K a) bs.length (fun H => SqL K H a xs) (YAt xs) := by
        have := h3.length
        rw [List.length_map] at this
        rw [← this]
        exact walk_list
      refine lc_data (K := K) (σ := σ) (vs := vs) bs hw ((ok.ex (e.trans e1))) hD hz (fun _ => true) (fun b e => e = F b) (fun H e => sq_of (e _ _ h1)) (fun M' i b x H2 H' hm ok' hb e2 y Qg qg => ?_) (fun H2 es e2 dd pr => ?_)
      · obtain ⟨rfl, hx⟩ := y
        obtain ⟨d', hd', dx⟩ := h3.get hx
        rw [List.getElem?_map, hb] at hd'
        cases hd'
        exact hs M' b x _ (fun v d h => (hm v d (h.ex (e.trans e1))).ex e2) ok' (List.mem_of_getElem? hb) ((e.trans e1).trans e2) ((hm _ _ dx).ex e2) Qg qg
      · cases dd with
        | lst w1 w2 w3 => exact q D _ es H2 (fresh_back e1 hD) (e1.trans e2) w1 w3 (by rw [paired_map pr, filter_all])
theorem evn_lcMP {β : Type} {PB : List β → Prop} (enc F : β → PyData) (ok : Ok M H) (hl : EvP K M tl σ H (fun d => ∃ bs : List β, d = .list (bs.map enc) ∧ PB bs)) (hz : ∀ bs, PB bs → bs.length < sizeLine)
    (hs : ∀ (M' : Addr → Prop) (bs : List β) (b : β) (x : V) (H' : Hp), (∀ v d, Dt K M H v d → Dt K M' H' v d) → Ok M' H' → PB bs → b ∈ bs → Ex H H' → Dt K M' H' x (enc b) →
      ∀ Qg : L2.St → Hp → Prop, (∀ σ2 H2, Ex H' H2 → Turned K M' σ vs tt te true (· = F b) σ2 H2 → Qg σ2 H2) → g x (wipe σ vs) H' Qg) :
    EvNew K M (tLc (iList K tl) g tt te vs) σ H (fun ds => ∃ bs : List β, ds = bs.map F ∧ PB bs) := fun H0 e Q q =>
  hl H0 e _ fun v d H1 e1 dv pd => by
    obtain ⟨bs, rfl, pb⟩ := pd
    cases dv with
    | lst h1 h2 h3 =>
      rename_i a xs
      refine ⟨a, rfl, ⟨xs, sq_of h1⟩, fun D hD => ?_⟩
      have hw : Walk (Itl K a) bs.length (fun H => SqL K H a xs) (YAt xs) := by
        have := h3.length
        rw [List.length_map] at this
        rw [← this]
        exact walk_list
      refine lc_data (K := K) (σ := σ) (vs := vs) bs hw ((ok.ex (e.trans e1))) hD (hz bs pb) (fun _ => true) (fun b e => e = F b) (fun H e => sq_of (e _ _ h1)) (fun M' i b x H2 H' hm ok' hb e2 y Qg qg => ?_) (fun H2 es e2 dd pr => ?_)
      · obtain ⟨rfl, hx⟩ := y
        obtain ⟨d', hd', dx⟩ := h3.get hx
        rw [List.getElem?_map, hb] at hd'
        cases hd'
        exact hs M' bs b x _ (fun v d h => (hm v d (h.ex (e.trans e1))).ex e2) ok' pb (List.mem_of_getElem? hb) ((e.trans e1).trans e2) ((hm _ _ dx).ex e2) Qg qg
      · cases dd with
        | lst w1 w2 w3 => exact q D _ es H2 (fresh_back e1 hD) (e1.trans e2) w1 w3 ⟨bs, by rw [paired_map pr, filter_all], pb⟩
theorem EvNew.dataP {β : Type} {PB : List β → Prop} {enc : β → PyData} (ok : Ok M H) (h : EvNew K M te σ H (fun ds => ∃ bs : List β, ds = bs.map enc ∧ PB bs)) : EvP K M te σ H (fun d => ∃ bs : List β, d = .list (bs.map enc) ∧ PB bs) :=
  (h.data ok).mono fun d ⟨ds, h1, bs, h2, h3⟩ => ⟨bs, by rw [h1, h2], h3⟩
end
end TH
set_option maxRecDepth 100000
set_option maxHeartbeats 4000000
namespace TH
open PySem L2 Evl
section
variable {K : PySem.W.Frag} {M : Addr → Prop} {H H1 H' : Hp} {σ : L2.St}
/-- all but D stays -/
def ExB (D : Addr) (H H' : Hp) : Prop := ∀ c o, H c = some o → c ≠ D → H' c = some o
theorem ExB.dts {D : Addr} {vs : List V} {ds : List PyData} (e : ExB D H H') (n : ∀ xs, H D ≠ some (.tup xs)) (h : Dts K (TH.more M D) H vs ds) : Dts K (TH.more M D) H' vs ds :=
  Dts.move (fun a xs h k => ⟨e _ _ h fun z => k (.inr z), k⟩) (fun a xs h => e _ _ h fun z => n xs (by rw [← z]; exact h)) ds vs h
theorem ExB.dt {D : Addr} {v : V} {d : PyData} (e : ExB D H H') (n : ∀ xs, H D ≠ some (.tup xs)) (h : Dt K (TH.more M D) H v d) : Dt K (TH.more M D) H' v d :=
  Dt.move (fun a xs h k => ⟨e _ _ h fun z => k (.inr z), k⟩) (fun a xs h => e _ _ h fun z => n xs (by rw [← z]; exact h)) d v h
theorem take_flat {α β : Type} (G : α → List β) {as : List α} {i : Nat} {a : α} (h : as[i]? = some a) : (as.take (i + 1)).flatMap G = (as.take i).flatMap G ++ G a := by
  rw [List.take_add_one, h, List.flatMap_append]
  simp
theorem flat_le {α β : Type} (G : α → List β) {m : Nat} (hG : ∀ a, (G a).length = m) : ∀ as : List α, (as.flatMap G).length = as.length * m
  | [] => by simp
  | a :: as => by
    rw [List.flatMap_cons, List.length_append, hG, flat_le G hG as, List.length_cons, Nat.add_mul, Nat.one_mul, Nat.add_comm]
/-- [F a b for a in as for b in bs], two lists -/
theorem evn_lc2LL {i j : Nat} {vs vs1 : List Nat} {tl tl1 te : TE} {as bs : List PyData} (F : PyData → PyData → PyData) (ok : Ok M H) (hl : EvD K M tl σ H (.list as)) (hz : as.length * bs.length < sizeLine)
    (hw : ∀ x : V, wipe ((wipe σ vs).set i (some x)) vs = wipe σ vs) (hw1 : ∀ x y : V, wipe ((wipe ((wipe σ vs).set i (some x)) vs1).set j (some y)) vs1 = wipe ((wipe σ vs).set i (some x)) vs1)
    (hl1 : ∀ (M' : Addr → Prop) (x : V) (H' : Hp), (∀ v d, Dt K M H v d → Dt K M' H' v d) → Ok M' H' → Ex H H' → EvD K M' tl1 ((wipe σ vs).set i (some x)) H' (.list bs))
    (hs : ∀ (M' : Addr → Prop) (a b : PyData) (x y : V) (H' : Hp), (∀ v d, Dt K M H v d → Dt K M' H' v d) → Ok M' H' → a ∈ as → b ∈ bs → Ex H H' → Dt K M' H' x a → Dt K M' H' y b → EvP K M' te ((wipe ((wipe σ vs).set i (some x)) vs1).set j (some y)) H' (· = F a b)) :
    EvNew K M (tLc2 (iList K tl) (gName i) tYes (iList K tl1) (gName j) tYes te vs vs1) σ H (· = as.flatMap fun a => bs.map (F a)) := fun H0 e Q q =>
  hl H0 e _ fun v d H1 e1 dv pd => by
    subst pd
    cases dv with
    | lst h1 h2 h3 =>
    rename_i a xs
    have l3 := h3.length
    refine ⟨a, rfl, ⟨xs, sq_of h1⟩, fun D hD => ?_⟩
    have e01 := e.trans e1
    have okD : ∀ {H}, Ex H1 H → H D ≠ none → Ok (TH.more M D) H := fun {H} e2 n l m => by
      rcases m with m | rfl
      · exact (ok.ex (e01.trans e2)) l m
      · exact n
    have lenG : ∀ n, ((as.take n).flatMap fun a => bs.map (F a)).length ≤ n * bs.length := fun n => by
      rw [flat_le _ (m := bs.length) (fun a => List.length_map ..), List.length_take]
      exact Nat.mul_le_mul_right _ (Nat.min_le_left _ _)
    refine ⟨fun n m H => m = as.length - n ∧ n ≤ as.length ∧ Ex H1 H ∧ ∃ acc, H D = some (.lst acc) ∧ Dts K (TH.more M D) H acc ((as.take n).flatMap fun a => bs.map (F a)), ⟨as.length, by simp, Nat.zero_le _, Ex.new hD, [], upd_same, .nil⟩, ?_⟩
    rintro n m H2 ⟨rfl, hi, e2, acc, hacc, dacc⟩
    by_cases hlt : n < as.length
    · refine .inr ⟨⟨xs, xs[n]'(by omega), sq_of (e2 _ _ h1), by simp⟩, fun H' => Ex H1 H' ∧ ∃ acc, H' D = some (.lst acc) ∧ Dts K (TH.more M D) H' acc ((as.take (n + 1)).flatMap fun a => bs.map (F a)), fun H' p' => ⟨as.length - (n + 1), by omega, rfl, hlt, p'⟩, fun x H' y => ?_⟩
      obtain ⟨rfl, hx⟩ := y
      have hx := hx xs (sq_of (e2 _ _ h1))
      obtain ⟨a', ha', dx⟩ := h3.get hx
      refine ⟨hw x, iteT (B := Ex H1 H' ∧ ∃ acc, H' D = some (.lst acc) ∧ Dts K (TH.more M D) H' acc ((as.take (n + 1)).flatMap fun a => bs.map (F a))) ?_⟩
      refine hl1 (TH.more M D) x H' (fun v d h => ((h.ex e01).more hD).ex e2) (okD e2 (by rw [hacc]; simp)) (e01.trans e2) H' (Ex.refl _) _ fun v' d' H4 e4 dv' pd' => ?_
      subst pd'
      cases dv' with
      | lst k1 k2 k3 =>
      rename_i b ys
      have l4 := k3.length
      have hacc4 := e4 _ _ hacc
      have hbD : b ≠ D := fun z => k2 (.inr z)
      have nt : ∀ zs, H4 D ≠ some (.tup zs) := fun zs => by rw [hacc4]; intro z; cases z
      have e24 := e2.trans e4
      have exb : ∀ {H}, ExB D H4 H → Ex H1 H := fun {H} eb c o hc => eb c o (e24 _ _ hc) fun z => by rw [z, hD] at hc; cases hc
      refine ⟨b, rfl, ⟨ys, sq_of k1⟩, fun p k H => k = bs.length - p ∧ p ≤ bs.length ∧ ExB D H4 H ∧ ∃ acc, H D = some (.lst acc) ∧ Dts K (TH.more M D) H acc (((as.take n).flatMap fun a => bs.map (F a)) ++ (bs.take p).map (F a')),
        ⟨bs.length, by simp, Nat.zero_le _, fun c o hc _ => hc, acc, hacc4, by rw [List.take_zero, List.map_nil, List.append_nil]; exact dacc.ex e4⟩, ?_⟩
      rintro p k H5 ⟨rfl, hp, eb, acc', hacc', dacc'⟩
      have k1' := eb _ _ k1 hbD
      by_cases hlt2 : p < bs.length
      · refine .inr ⟨⟨ys, ys[p]'(by omega), sq_of k1', by simp⟩, fun H => ExB D H4 H ∧ ∃ acc, H D = some (.lst acc) ∧ Dts K (TH.more M D) H acc (((as.take n).flatMap fun a => bs.map (F a)) ++ (bs.take (p + 1)).map (F a')), fun H' p' => ⟨bs.length - (p + 1), by omega, rfl, hlt2, p'⟩, fun y H' yy => ?_⟩
        obtain ⟨rfl, hy⟩ := yy
        have hy := hy ys (sq_of k1')
        obtain ⟨b', hb', dy⟩ := k3.get hy
        refine ⟨hw1 x y, iteT (B := ExB D H4 H' ∧ ∃ acc, H' D = some (.lst acc) ∧ Dts K (TH.more M D) H' acc (((as.take n).flatMap fun a => bs.map (F a)) ++ (bs.take (p + 1)).map (F a'))) ?_⟩
        have e15 := exb eb
        refine hs (TH.more M D) a' b' x y H' (fun v d h => ((h.ex e01).more hD).ex e15) (okD e15 (by rw [hacc']; simp)) (List.mem_of_getElem? ha') (List.mem_of_getElem? hb') (e01.trans e15) ((dx.more hD).ex e15) (eb.dt nt dy) H' (Ex.refl _) _ fun z d H6 e6 dz pz => ?_
        subst pz
        have lacc : acc'.length < sizeLine := by
          rw [dacc'.length, List.length_append, List.length_map, List.length_take]
          have h1 := lenG n
          have h2 : n * bs.length + bs.length ≤ as.length * bs.length := by
            rw [← Nat.succ_mul]
            exact Nat.mul_le_mul_right _ hlt
          have h3 : min p bs.length ≤ p := Nat.min_le_left _ _
          omega
        refine ⟨acc', e6 _ _ hacc', lacc, fun c o hc nc => ?_, acc' ++ [z], upd_same, ?_⟩
        · rw [upd_ne nc]
          exact e6 _ _ (eb c o hc nc)
        · have tk : bs.take (p + 1) = bs.take p ++ [b'] := by rw [List.take_add_one, hb']; rfl
          rw [tk, List.map_append, ← List.append_assoc]
          exact ((dacc'.ex e6).append (.one dz)).upd (e6 _ _ hacc') (.inr rfl)
      · have ep : p = bs.length := by omega
        subst ep
        rw [List.take_length] at dacc'
        exact .inl ⟨⟨ys, sq_of k1', by omega⟩, exb eb, acc', hacc', by rw [take_flat _ ha']; exact dacc'⟩
    · have en : n = as.length := by omega
      subst en
      rw [List.take_length] at dacc
      exact .inl ⟨⟨xs, sq_of (e2 _ _ h1), by omega⟩, q D acc _ H2 (fresh_back e1 hD) (e1.trans e2) hacc (dacc.weak more_sub) rfl⟩
end
end TH
set_option maxRecDepth 100000
set_option maxHeartbeats 4000000
namespace TH
open PySem L2 Evl
/-! ### a method as a value, and its call through a local name -/
def tBnM (C : Addr) (m : Str) (g : Addr) (ta : TE) : TE := fun σ H Q => ta σ H fun x H1 => ∃ a dx fs, x = .ref a ∧ H1 a = some (.ins C dx fs) ∧ fs.lookup m = none ∧ ∀ q, H1 q = none → Q (.ref q) (upd H1 q (.met g a))
def tCallM (g : Addr) (sp : Sp) (E : XK) (tf : TE) (t : TA) : TE := fun σ H Q => tf σ H fun v H1 => ∃ q a, v = .ref q ∧ t σ H1 fun vs H2 => H2 q = some (.met g a) ∧ sp (.ref a :: vs) H2 Q E
section
variable {X : Cx} {CX : CXT} {k : Nat} {C g : Addr} {m x : Str} {sp : Sp} {E : XK} {o e : Expr} {es : List Expr} {ta tf : TE} {t : TA} {pos nm : Pos}
theorem pe_bnM (he : PE X o ta) (c : Cls X.K C) (b : BMeth X.K C m g) (hb : attributeBase o m X.env (eval o X.env) = eval o X.env := by rfl) : PE X (.Attribute o m pos) (tBnM C m g ta) := by
  refine ⟨fun pins s σ H Q I h => ?_⟩
  refine attr_of hb (thn (he.run pins s σ H _ I h) fun u s1 ⟨x, H1, I1, rx, a, dx, fs, ex, ea, l, q⟩ => ?_)
  subst ex
  exact op_getbound I1 ea c b l rx q
theorem pe_callM (hf : PE X (.Name x nm) tf) (F : FnR X.prog X.w X.K X.mg X.base CX k g sp) (hr : Room k X.A) (hx : Passes CX X E) (fi : PySem.W.fnIn X.K g = true) (ha : PA X (e :: es) t)
    (he : starEach (e :: es) X.env = (false, eval e X.env) :: starEach es X.env := by rfl) (hpl : (backTo pos (starEach es X.env)).any (·.1) = false := by rfl) : PE X (.Call (.Name x nm) (e :: es) [] pos) (tCallM g sp E tf t) := by
  refine ⟨fun pins s σ H Q I h => ?_⟩
  refine wpAny_Call_Name_kw (thn (hf.run pins s σ H _ I h) fun f s0 ⟨v, H0, I0, r0, q, a, ev, q0⟩ => ?_)
  subst ev
  obtain rfl : f = Value.ref q := r0
  have z : wpAny (model X.prog X.w) X.A (spliced (backTo pos (starEach (e :: es) X.env))) (fun vs s₁ => PySem.W.MethP X.K q g (.ref a) s₁.heap ∧ wpAny (model X.prog X.w) X.A (call (.ref q) ([] ++ vs)) (EP X pins σ Q) X.xe s₁) X.xe s0 :=
    thn (ha.run pos pins s0 σ H0 _ I0 q0) fun us s1 ⟨vs, H1, I1, r1, hb, q1⟩ => ⟨met_P I1 hb, wpAny_call (PySem.W.method_call (met_P I1 hb).1 (run_fnR (us := Value.ref a :: us) (vs := V.ref a :: vs) F hr hx I1 (.cons rfl r1) q1))⟩
  rw [he] at z ⊢
  exact PySem.W.callWith_of (P := PySem.W.MethP X.K q g (.ref a)) (by show ((false || (backTo pos (starEach es X.env)).any (·.1)) || false) = false; rw [hpl]; rfl) (PySem.W.keeps_M fi) (PySem.Calls.evalArgs_plain z)
end
end TH
set_option maxRecDepth 100000
set_option maxHeartbeats 4000000
namespace TH
open PySem L2 Evl LamX
/-! ### what stays where a lambda is made -/
section
variable {K : PySem.W.Frag} {M : Addr → Prop} {H H1 H' : Hp} {C CN p : Addr} {S T : List Sg} {σ : L2.St} {ta : TE} {E : XK} {Q : VK}
theorem extn_sqt {a : Addr} {xs : List V} (e : ExtN H H') (h : SqT K H a xs) : SqT K H' a xs := by
  rcases h with (h | ⟨u, h⟩) | h
  · exact .inl (.inl (e _ _ h fun ps z => by cases z))
  · exact .inl (.inr ⟨u, e _ _ h fun ps z => by cases z⟩)
  · exact .inr h
theorem extn_sql {a : Addr} {xs : List V} (e : ExtN H H') (h : SqL K H a xs) : SqL K H' a xs := by
  rcases h with (h | ⟨u, h⟩) | h
  · exact .inl (.inl (e _ _ h fun ps z => by cases z))
  · exact .inl (.inr ⟨u, e _ _ h fun ps z => by cases z⟩)
  · exact .inr h
theorem dt_extn {v : V} {d : PyData} (h : Dt K M H v d) (e : ExtN H H') : Dt K M H' v d :=
  Dt.move (fun a xs h n => ⟨e _ _ h (fun ps z => by cases z), n⟩) (fun a xs h => e _ _ h (fun ps z => by cases z)) d v h
theorem book_extn (h : BookAt C M H p S) (e : ExtN H H') : BookAt C M H' p S := by
  obtain ⟨dx, l1, l2, h1, h2, h3, h4, h5⟩ := h
  exact ⟨dx, l1, l2, e _ _ h1 (fun ps z => by cases z), e _ _ h2 (fun ps z => by cases z), h3, e _ _ h4 (fun ps z => by cases z), h5⟩
theorem box_extn {b : Addr} (h : H b = some (Box b)) (e : ExtN H H') : H' b = some (Box b) := e _ _ h fun ps z => by
  unfold Box at z
  cases z
theorem ok_extn (h : Ok M H) (hm : ∀ l, M l → ∃ xs, H l = some (.lst xs)) (e : ExtN H H') : Ok M H' := fun l m => by
  obtain ⟨xs, hx⟩ := hm l m
  rw [e _ _ hx (fun ps z => by cases z)]
  simp
/-- Book(..) of a list that is a book, of one that is none -/
theorem made_ex {x dx : Addr} (h1 : H x = none) (h2 : H dx = none) (hne : dx ≠ x) : Ex H (upd (upd H dx (.own x)) x (.ins C dx [])) :=
  (Ex.new h2).trans (Ex.new (by rw [upd_ne hne.symm]; exact h1))
theorem make_book (ok : Ok M H) (h : EvD K M ta σ H (.list (S.map sgD))) (g : validB S = true) (hl : S.length ≤ 100) (hz : ∀ q ∈ S, q.1.length ≤ 100000)
    (q : ∀ x H', Ex H H' → BookAt C M H' x S → Q (.ref x) H') : tMake C (spInit K C CN) [] E (tCons ta tNil) σ H Q := by
  refine h H (Ex.refl H) _ fun v d H1 e1 dv pd x dx hx hdx hne => ?_
  subst pd
  have e2 : Ex H1 (upd (upd H1 dx (.own x)) x (.ins C dx [])) := made_ex hx hdx hne
  refine ⟨M, x, dx, v, S, ok.ex (e1.trans e2), rfl, upd_same, dv.ex e2, hl, hz, fun _ H' hB hk => ⟨rfl, q x H' (e1.trans fun b o hb => ?_) hB⟩, fun g' => by rw [g] at g'; cases g'⟩
  exact hk b o (e2 b o hb) (ne_of_none hb hx)
theorem make_none (ok : Ok M H) (h : EvD K M ta σ H (.list (S.map sgD))) (g : validB S = false) (hl : S.length ≤ 100) (hz : ∀ q ∈ S, q.1.length ≤ 100000)
    (q : ∀ H', Ex H H' → E (.ref CN) none H') : tMake C (spInit K C CN) [] E (tCons ta tNil) σ H Q := by
  refine h H (Ex.refl H) _ fun v d H1 e1 dv pd x dx hx hdx hne => ?_
  subst pd
  have e2 : Ex H1 (upd (upd H1 dx (.own x)) x (.ins C dx [])) := made_ex hx hdx hne
  exact ⟨M, x, dx, v, S, ok.ex (e1.trans e2), rfl, upd_same, dv.ex e2, hl, hz, (fun g' => by rw [g] at g'; cases g'), fun _ H' e3 => q H' ((e1.trans e2).trans e3)⟩
/-! ### two lists that are the same -/
theorem lay_sgs : ∀ S : List Sg, (∀ q ∈ S, PyData.strOk q.1 = true) → PyData.canLayAll0 (S.map sgD) = true
  | [], _ => rfl
  | q :: S, h => by
    rw [List.map_cons, PyData.canLayAll0, lay_sgs S fun r hr => h r (List.mem_cons_of_mem _ hr)]
    have : (sgD q).canLay0 = true := by
      unfold sgD
      rw [PyData.canLay0, PyData.canLayAll0, PyData.canLay0, h q List.mem_cons_self, PyData.canLayAll0, PyData.canLay0, PyData.canLayAll0]
      rfl
    rw [this]
    rfl
theorem depth_sgs : ∀ S : List Sg, PyData.depthAll (S.map sgD) ≤ 1
  | [] => by show 0 ≤ 1; decide
  | q :: S => by
    rw [List.map_cons, PyData.depthAll]
    have h1 := depth_sgs S
    have h2 : (sgD q).depth = 1 := by
      unfold sgD
      rw [PyData.depth, PyData.depthAll, PyData.depth, PyData.depthAll, PyData.depth, PyData.depthAll]
      rfl
    rw [h2]
    exact Nat.max_le.mpr ⟨Nat.le_refl _, h1⟩
theorem shaped_sgs (h : ∀ q ∈ S, PyData.strOk q.1 = true) : SeqAt.shaped (.list (S.map sgD)) = true := by
  unfold SeqAt.shaped
  rw [PyData.canLay0, lay_sgs S h, PyData.depth, decide_eq_true (by have := depth_sgs S; omega)]
  rfl
theorem eqv_sgs (h : ∀ q ∈ S, PyData.strOk q.1 = true) : PyData.eqv (.list (S.map sgD)) (.list (S.map sgD)) = true :=
  SeqAt.eqv_refl _ (by rw [PyData.canLay0]; exact lay_sgs S h)
theorem like_same (S : List Sg) : (decide (S.map (·.1) = S.map (·.1)) && decide (S.map (·.2) = S.map (·.2))) = true := by simp
theorem like_other {S T : List Sg} (h : T ≠ S) : (decide (S.map (·.1) = T.map (·.1)) && decide (S.map (·.2) = T.map (·.2))) = false ∧ (decide (T.map (·.1) = S.map (·.1)) && decide (T.map (·.2) = S.map (·.2))) = false := by
  have key : ¬ (S.map (·.1) = T.map (·.1) ∧ S.map (·.2) = T.map (·.2)) := by
    rintro ⟨h1, h2⟩
    apply h
    have hl : S.length = T.length := by
      have := congrArg List.length h1
      rwa [List.length_map, List.length_map] at this
    refine List.ext_getElem hl.symm fun i hi hi' => ?_
    have a1 : (T.map (·.1))[i]? = (S.map (·.1))[i]? := by rw [h1]
    have a2 : (T.map (·.2))[i]? = (S.map (·.2))[i]? := by rw [h2]
    rw [List.getElem?_map, List.getElem?_map, List.getElem?_eq_getElem hi, List.getElem?_eq_getElem hi'] at a1 a2
    injection a1 with a1
    injection a2 with a2
    exact Prod.ext a1 a2
  constructor
  · rw [← Bool.not_eq_true, Bool.and_eq_true, decide_eq_true_eq, decide_eq_true_eq]
    exact key
  · rw [← Bool.not_eq_true, Bool.and_eq_true, decide_eq_true_eq, decide_eq_true_eq]
    exact fun z => key ⟨z.1.symm, z.2.symm⟩
theorem evd_listOf {ta : TA} {ds : List PyData} (ok : Ok M H) (h : EvDA K M ta σ H [.list ds]) : EvD K M (tCB (fun xs H Q => ∃ p ys, xs = [.ref p] ∧ (SqL K H p ys ∨ SqT K H p ys) ∧ ∀ l, H l = none → Q (.ref l) (upd H l (.lst ys))) ta) σ H (.list ds) :=
  evp_cb h fun vs es H1 e dv pd Q q => by
    subst pd
    cases dv with
    | cons h1 h2 =>
      cases h2
      cases h1 with
      | lst k1 k2 k3 => exact ⟨_, _, rfl, .inl (sq_of k1), fun l hl => q _ _ _ (Ex.new hl) (.lst upd_same ((ok.ex e).new hl) (k3.ex (Ex.new hl))) rfl⟩
theorem q_asgR {te : TE} {i : Nat} {tz : TS} {D : Ends} (h : te σ H fun v H1 => tz D (σ.set i (some v)) H1) : tSeq (tAsg te (gName i)) tz D σ H := h
/-- the book's lists are not the list of signs -/
theorem book_apart {h : Addr} {xs : List V} {y : Addr} (hB : BookAt C MF H p S) (hh : H h = some (.lst xs)) (hy : xs[0]? = some (.ref y)) : BookAt C (· = h) H p S := by
  obtain ⟨dx, l1, l2, h1, h2, _, h4, _⟩ := hB
  refine ⟨dx, l1, l2, h1, h2, fun z => ?_, h4, fun z => ?_⟩
  · rw [z, hh] at h2
    injection h2 with h2
    injection h2 with h2
    rw [h2, List.getElem?_map] at hy
    cases hS : S[0]? with
    | none =>
      rw [hS] at hy
      cases hy
    | some q =>
      rw [hS] at hy
      cases hy
  · rw [z, hh] at h4
    injection h4 with h4
    injection h4 with h4
    rw [h4, List.getElem?_map] at hy
    cases hS : S[0]? with
    | none =>
      rw [hS] at hy
      cases hy
    | some q =>
      rw [hS] at hy
      cases hy
end
end TH
set_option maxRecDepth 100000
set_option maxHeartbeats 4000000
namespace TH
open PySem L2 Evl
theorem nums_of (r : List Nat) : (ofN r).map V.int = nums r := by
  unfold nums ofN
  rw [List.map_map]
  rfl
structure GlobY (mg : Str → Option Value) : Prop where
  list : mg "list" = none
/-- data that are new since H -/
def NewD (K : PySem.W.Frag) (H H' : Hp) (x : V) (d : PyData) : Prop := ∀ M', Ok M' H → Dt K M' H' x d
theorem NewD.ex {K : PySem.W.Frag} {H H' H2 : Hp} {x : V} {d : PyData} (h : NewD K H H' x d) (e : Ex H' H2) : NewD K H H2 x d := fun M' ok => (h M' ok).ex e
theorem row_pre {n : Nat} {ar : Nat → Nat} : ∀ (t u : Tr) (r q : List Nat), Tr.Ok n ar t → Tr.Ok n ar u → t.row ++ r = u.row ++ q → t = u ∧ r = q
  | .n0 s, u, r, q, ht, hu, e => by
    cases u with
    | n0 s' =>
      injection (show s :: r = s' :: q from e) with h1 h2
      exact ⟨by rw [h1], h2⟩
    | n1 s' a =>
      injection (show s :: r = s' :: (a.row ++ q) from e) with h1 h2
      have := ht.2.symm.trans ((congrArg ar h1).trans hu.2.1)
      omega
    | n2 s' a b =>
      injection (show s :: r = s' :: ((a.row ++ b.row) ++ q) from e) with h1 h2
      have := ht.2.symm.trans ((congrArg ar h1).trans hu.2.1)
      omega
  | .n1 s a, u, r, q, ht, hu, e => by
    cases u with
    | n0 s' =>
      injection (show s :: (a.row ++ r) = s' :: q from e) with h1 h2
      have := ht.2.1.symm.trans ((congrArg ar h1).trans hu.2)
      omega
    | n1 s' a' =>
      injection (show s :: (a.row ++ r) = s' :: (a'.row ++ q) from e) with h1 h2
      obtain ⟨h3, h4⟩ := row_pre a a' r q ht.2.2 hu.2.2 h2
      exact ⟨by rw [h1, h3], h4⟩
    | n2 s' a' b =>
      injection (show s :: (a.row ++ r) = s' :: ((a'.row ++ b.row) ++ q) from e) with h1 h2
      have := ht.2.1.symm.trans ((congrArg ar h1).trans hu.2.1)
      omega
  | .n2 s a b, u, r, q, ht, hu, e => by
    cases u with
    | n0 s' =>
      injection (show s :: ((a.row ++ b.row) ++ r) = s' :: q from e) with h1 h2
      have := ht.2.1.symm.trans ((congrArg ar h1).trans hu.2)
      omega
    | n1 s' a' =>
      injection (show s :: ((a.row ++ b.row) ++ r) = s' :: (a'.row ++ q) from e) with h1 h2
      have := ht.2.1.symm.trans ((congrArg ar h1).trans hu.2.1)
      omega
    | n2 s' a' b' =>
      injection (show s :: ((a.row ++ b.row) ++ r) = s' :: ((a'.row ++ b'.row) ++ q) from e) with h1 h2
      rw [List.append_assoc, List.append_assoc] at h2
      obtain ⟨h3, h4⟩ := row_pre a a' _ _ ht.2.2.1 hu.2.2.1 h2
      obtain ⟨h5, h6⟩ := row_pre b b' r q ht.2.2.2 hu.2.2.2 h4
      exact ⟨by rw [h1, h3, h5], h6⟩
theorem row_inj {S : List Sg} {t u : Tr} (ht : OkT S t) (hu : OkT S u) (e : ofN t.row = ofN u.row) : t = u := by
  have e1 : t.row = u.row := by
    have : ∀ r q : List Nat, ofN r = ofN q → r = q := by
      intro r
      induction r with
      | nil => intro q h; cases q with
        | nil => rfl
        | cons a q => cases h
      | cons a r ih => intro q h; cases q with
        | nil => cases h
        | cons b q =>
          injection (show (a : Int) :: ofN r = (b : Int) :: ofN q from h) with h1 h2
          rw [ih q h2, show a = b by omega]
    exact this _ _ e
  exact (row_pre t u [] [] ht hu (by rw [e1])).1
theorem treeB_tree {S : List Sg} (hk : KidsOk S) {ns : List Int} (h : treeB S ns = true) : ∃ t, OkT S t ∧ ns = ofN t.row ∧ t.size ≤ 40 := by
  unfold treeB at h
  rw [Bool.and_eq_true, decide_eq_true_eq] at h
  obtain ⟨t, ht, rfl⟩ := runB_tree hk h.2
  rw [ofN_len] at h
  exact ⟨t, ht, rfl, by unfold Tr.size; omega⟩
def listI (ns : List Int) : PyData := .list (ns.map PyData.int)
def likB (m : Int) : Int → List Int → Bool
  | _, [] => true
  | b, x :: r => (decide (b < x) && decide (x < m)) && likB m x r
theorem BookAt.updI {M : Addr → Prop} {H : Hp} {C pb p C' dx : Addr} {S : List Sg} {fs : List (Str × V)} {o : HO} (h : BookAt C M H pb S) (hp : H p = some (.ins C' dx fs)) (hne : p ≠ pb) : BookAt C M (L2.upd H p o) pb S := by
  obtain ⟨dx', l1, l2, h1, h2, h3, h4, h5⟩ := h
  refine ⟨dx', l1, l2, ?_, ?_, h3, ?_, h5⟩
  · rw [upd_ne (Ne.symm hne)]
    exact h1
  · rw [upd_ne (ne_of h2 hp (by intro z; cases z))]
    exact h2
  · rw [upd_ne (ne_of h4 hp (by intro z; cases z))]
    exact h4
theorem okUpd {M : Addr → Prop} {H : Hp} {p : Addr} {o : HO} (ok : Ok M H) : Ok M (L2.upd H p o) := fun l m => by
  by_cases e : l = p
  · rw [e, upd_same]
    simp
  · rw [upd_ne e]
    exact ok l m
theorem pe_fldK {X : Cx} {K : PySem.W.Frag} {e : Expr} {f : Str} {pos : Pos} {ta : TE} (hK : X.K = K) (he : PE X e ta) (hb : attributeBase e f X.env (eval e X.env) = eval e X.env) : PE X (.Attribute e f pos) (tFld K ta f) := by
  subst hK
  exact pe_fld he hb
theorem call_list_ofK {X : Cx} {K : PySem.W.Frag} (h : X.K = K) : CallR X (.type "list") (fun xs H Q => ∃ p ys, xs = [.ref p] ∧ (SqL K H p ys ∨ SqT K H p ys) ∧ ∀ l, H l = none → Q (.ref l) (upd H l (.lst ys))) := by
  subst h
  exact call_list_of
theorem q_fldR {K : PySem.W.Frag} {H : Hp} {σ : L2.St} {D : Ends} {tz : TS} {i j : Nat} {f : Str} {v : V} {p C dx : Addr} {fs : List (Str × V)} (hv : σ[j]? = some (some v)) (hs : σ[i]? = some (some (.ref p))) (hp : H p = some (.ins C dx fs)) (c : Cls K C) (n : NoAttr K C f) (hl : fs.length < 1000)
    (k : tz D σ (upd H p (.ins C dx (putF f v fs)))) : tSeq (sFld K (tVar i) (tVar j) f) tz D σ H := ⟨v, hv, _, hs, p, C, dx, fs, rfl, hp, c, n, hl, k⟩
/-- data that are new since H, whatever may change of what stood -/
def MO (H : Hp) : Addr → Prop := fun a => H a ≠ none
theorem okO {H : Hp} : Ok (MO H) H := fun _ h => h
theorem newD_of {K : PySem.W.Frag} {H H' : Hp} {x : V} {d : PyData} (h : Dt K (MO H) H' x d) : NewD K H H' x d := fun M' ok => h.weak fun a m => ok a m
theorem NewD.from {K : PySem.W.Frag} {H0 H H' : Hp} {x : V} {d : PyData} (h : NewD K H H' x d) (e : ∀ b o, H0 b = some o → ∃ o', H b = some o') : NewD K H0 H' x d := fun M' ok => h M' fun l m => by
  cases hl : H0 l with
  | none => exact absurd hl (ok l m)
  | some o =>
    obtain ⟨o', h'⟩ := e l o hl
    rw [h']
    simp
structure GlobI (mg : Str → Option Value) : Prop where
  isinstance : mg "isinstance" = none
  bool : mg "bool" = none
structure ChM (M : Addr → Prop) (H H' : Hp) : Prop where
  keep : ∀ b o, H b = some o → ¬ M b → H' b = some o
  lst : ∀ b, M b → ∃ xs, H b = some (.lst xs)
section
variable {K : PySem.W.Frag} {M M' N Mb : Addr → Prop} {H H1 H' : Hp} {σ : L2.St} {ta tb tc te tl tm ts tx : TE} {tt : TT} {g : TG} {vs : List Nat} {E : XK} {d : PyData} {C CB CR p b pb : Addr} {S : List Sg} {ns : List Int}
/-- a field whose value are data -/
theorem evd_fld {i : Nat} {p C dx : Addr} {fs : List (Str × V)} {f : Str} {v : V} (hs : σ[i]? = some (some (.ref p))) (hp : H p = some (.ins C dx fs)) (c : Cls K C) (n : NoAttr K C f) (l : fs.lookup f = some v) (hd : Dt K M H v d) : EvD K M (tFld K (tVar i) f) σ H d := fun H1 e Q q =>
  ⟨_, hs, p, C, dx, fs, v, rfl, e _ _ hp, c, n, l, q v d H1 (Ex.refl _) (hd.ex e) rfl⟩
theorem dt_nums {a : Addr} {k : List Nat} (h : H a = some (.tup (nums k))) : Dt K M H (.ref a) (tupI (ofN k)) := .tup h (nums_dts k)
theorem dt_tupN {v : V} {k : List Nat} (h : Dt K M H v (tupI (ofN k))) : ∃ a, v = .ref a ∧ SqT K H a (nums k) := by
  obtain ⟨a, rfl, h1⟩ := dt_tup h
  rw [nums_of] at h1
  exact ⟨a, rfl, h1⟩
theorem dt_listN {K : PySem.W.Frag} {M : Addr → Prop} {H : Hp} {v : V} {r : List Nat} (h : Dt K M H v (intsD r)) : ∃ a, v = .ref a ∧ H a = some (.lst (nums r)) ∧ ¬ M a := by
  unfold intsD at h
  cases h with
  | lst h1 h2 h3 =>
    rw [h3.ints, nums_of] at h1
    exact ⟨_, rfl, h1, h2⟩
theorem evd_mulM {K : PySem.W.Frag} {M : Addr → Prop} {H : Hp} {σ : L2.St} {ta tb : TE} {i j : Int} (ha : EvD K M ta σ H (.int i)) (hb : EvD K M tb σ H (.int j)) (h : -(2 ^ 64) < i ∧ i < 2 ^ 64) : EvD K M (tOp (rI CMul fun i j => .int (i * j)) ta tb) σ H (.int (i * j)) :=
  evp_I ha hb fun a b pa pb => ⟨i, j, pa, pb, .inl h, _, rfl, fun _ => .int _⟩
theorem evn_lcE {β : Type} {bs : List β} (enc : β → PyData) (F : Nat → β → PyData) {ta : TA} (ok : Ok M H) (hl : EvDA K M ta σ H [.list (bs.map enc)]) (hz : bs.length < sizeLine)
    (hs : ∀ (M' : Addr → Prop) (i : Nat) (b : β) (x : V) (T : Addr) (H' : Hp), (∀ v d, Dt K M H v d → Dt K M' H' v d) → Ok M' H' → bs[i]? = some b → Ex H H' → Dt K M' H' x (enc b) → H' T = some (.tup [.int (i : Int), x]) →
      ∀ Qg : L2.St → Hp → Prop, (∀ σ2 H2, Ex H' H2 → Turned K M' σ vs tt te true (· = F i b) σ2 H2 → Qg σ2 H2) → g (.ref T) (wipe σ vs) H' Qg) :
    EvNew K M (tLc (iEnum K ta) g tt te vs) σ H (· = bs.zipIdx.map fun p => F p.2 p.1) := fun H0 e Q q =>
  hl H0 e _ fun us ds H1 e1 dv pd => by
    subst pd
    cases dv with
    | cons dv h0 =>
    cases h0
    cases dv with
    | lst h1 h2 h3 =>
      rename_i a xs
      refine ⟨a, xs, rfl, sq_of h1, fun D hD => ?_⟩
      have hw : Walk (Ite K a) bs.zipIdx.length (fun H => SqL K H a xs) (YPair (fun i => some (.int (i : Nat))) (fun i => xs[i]?)) := by
        have := h3.length
        rw [List.length_map] at this
        rw [List.length_zipIdx, ← this]
        exact walk_enum
      refine lc_data (K := K) (σ := σ) (vs := vs) bs.zipIdx hw ((ok.ex (e.trans e1))) hD (by rw [List.length_zipIdx]; exact hz) (fun _ => true) (fun p e => e = F p.2 p.1) (fun H e => sq_of (e _ _ h1)) (fun M' i p x H2 H' hm ok' hp e2 y Qg qg => ?_) (fun H2 es e2 dd pr => ?_)
      · obtain ⟨T, x0, y0, rfl, hT, rfl, hx, hy⟩ := y
        rw [List.getElem?_zipIdx] at hp
        cases hb : bs[i]? with
        | none =>
          rw [hb] at hp
          cases hp
        | some b =>
        rw [hb] at hp
        cases hp
        cases hx
        obtain ⟨d', hd', dx⟩ := h3.get hy
        rw [List.getElem?_map, hb] at hd'
        cases hd'
        have e3 : Ex H2 (upd H2 T (.tup [.int (i : Int), y0])) := Ex.new hT
        rw [Nat.zero_add] at qg
        exact hs M' i b y0 T _ (fun v d h => (hm v d (h.ex (e.trans e1))).ex (e2.trans e3)) (ok'.ex e3) hb (((e.trans e1).trans e2).trans e3) ((hm _ _ dx).ex (e2.trans e3)) upd_same Qg fun σ2 H3 e4 T4 => qg σ2 H3 (e3.trans e4) T4
      · cases dd with
        | lst w1 w2 w3 => exact q D _ es H2 (fresh_back e1 hD) (e1.trans e2) w1 w3 (by rw [paired_map pr, filter_all])
/-- a comprehension: what is gone over may lie among what changes -/
theorem evn_lcMN {β : Type} {bs : List β} (enc F : β → PyData) (ok : Ok N H) (hl : EvD K M tl σ H (.list (bs.map enc))) (hz : bs.length < sizeLine)
    (hs : ∀ (N' : Addr → Prop) (b : β) (x : V) (H' : Hp), (∀ v d, Dt K N H v d → Dt K N' H' v d) → Ok N' H' → b ∈ bs → Ex H H' → Dt K M H' x (enc b) →
      ∀ Qg : L2.St → Hp → Prop, (∀ σ2 H2, Ex H' H2 → Turned K N' σ vs tt te true (· = F b) σ2 H2 → Qg σ2 H2) → g x (wipe σ vs) H' Qg) :
    EvNew K N (tLc (iList K tl) g tt te vs) σ H (· = bs.map F) := fun H0 e Q q =>
  hl H0 e _ fun v d H1 e1 dv pd => by
    subst pd
    cases dv with
    | lst h1 h2 h3 =>
      rename_i a xs
      refine ⟨a, rfl, ⟨xs, sq_of h1⟩, fun D hD => ?_⟩
      have hw : Walk (Itl K a) bs.length (fun H => SqL K H a xs) (YAt xs) := by
        have := h3.length
        rw [List.length_map] at this
        rw [← this]
        exact walk_list
      refine lc_data (K := K) (σ := σ) (vs := vs) bs hw ((ok.ex (e.trans e1))) hD hz (fun _ => true) (fun b e => e = F b) (fun H e => sq_of (e _ _ h1)) (fun M' i b x H2 H' hm ok' hb e2 y Qg qg => ?_) (fun H2 es e2 dd pr => ?_)
      · obtain ⟨rfl, hx⟩ := y
        obtain ⟨d', hd', dx⟩ := h3.get hx
        rw [List.getElem?_map, hb] at hd'
        cases hd'
        exact hs M' b x _ (fun v d h => (hm v d (h.ex (e.trans e1))).ex e2) ok' (List.mem_of_getElem? hb) ((e.trans e1).trans e2) (dx.ex e2) Qg qg
      · cases dd with
        | lst w1 w2 w3 => exact q D _ es H2 (fresh_back e1 hD) (e1.trans e2) w1 w3 (by rw [paired_map pr, filter_all])
theorem evn_listOf {ta : TA} {ds : List PyData} (h : EvDA K M ta σ H [.list ds]) : ∀ H1, Ex H H1 → ∀ Q : VK, (∀ l xs H2, H1 l = none → Ex H1 H2 → H2 l = some (.lst xs) → Dts K M H2 xs ds → Q (.ref l) H2) → tCB (fun xs H Q => ∃ p ys, xs = [.ref p] ∧ (SqL K H p ys ∨ SqT K H p ys) ∧ ∀ l, H l = none → Q (.ref l) (upd H l (.lst ys))) ta σ H1 Q := fun H1 e Q q =>
  h H1 e _ fun vs es H2 e2 dv pd => by
    subst pd
    cases dv with
    | cons h1 h2 =>
      cases h2
      cases h1 with
      | lst k1 k2 k3 => exact ⟨_, _, rfl, .inl (sq_of k1), fun l hl => q l _ _ (fresh_back e2 hl) (e2.trans (Ex.new hl)) upd_same (k3.ex (Ex.new hl))⟩
/-- list(..) of ints: new -/
theorem evd_listNew {ta : TA} {ns : List Int} (ok : Ok N H) (h : EvDA K M ta σ H [listI ns]) : EvD K N (tCB (fun xs H Q => ∃ p ys, xs = [.ref p] ∧ (SqL K H p ys ∨ SqT K H p ys) ∧ ∀ l, H l = none → Q (.ref l) (upd H l (.lst ys))) ta) σ H (listI ns) := fun H1 e Q q =>
  evn_listOf h H1 e Q fun l xs H2 hl e2 h2 dx => q _ _ H2 e2 (.lst h2 ((ok.ex e).new hl) (by rw [dx.ints]; exact Dts.of_ints ns)) rfl
theorem evd_neB {i j : Bool} (ha : EvD K M ta σ H (.bool i)) (hb : EvD K M tb σ H (.bool j)) : EvD K M (tOp rNe ta tb) σ H (.bool (!decide (i = j))) :=
  evp_op ha hb fun x y a b H1 e dx dy px py Q q => by
    subst px py
    cases dx
    cases dy
    refine ⟨rfl, q _ _ H1 (Ex.refl _) (.bl _) ?_⟩
    simp
theorem evt_or2 {t u : TT} {c : Bool} (h1 : EvT t σ H false) (h2 : EvT u σ H c) : EvT (tOr t u) σ H c := fun H1 e Q q =>
  h1 H1 e _ fun H2 e2 => iteF (h2 H2 (e.trans e2) Q fun H3 e3 => q H3 (e2.trans e3))
theorem evt_isInt {i : Nat} {z : Int} {t2 : TE} (hs : σ[i]? = some (some (.int z))) (h2 : t2 = tC (.ty "bool")) : EvT (tB (tCB (rIsi K) (tCons (tVar i) (tCons t2 tNil)))) σ H false := fun H1 e Q q => by
  subst h2
  exact ⟨_, hs, .int _, .ty "bool", .type "int", .type "bool", false, rfl, .ty _, .base (.int _), kit_ty (by decide +kernel), _, rfl, q H1 (Ex.refl _)⟩
theorem evt_isBool {i : Nat} {z : Bool} {t2 : TE} (hs : σ[i]? = some (some (.bl z))) (h2 : t2 = tC (.ty "bool")) : EvT (tB (tCB (rIsi K) (tCons (tVar i) (tCons t2 tNil)))) σ H true := fun H1 e Q q => by
  subst h2
  exact ⟨_, hs, .bl _, .ty "bool", .type "bool", .type "bool", true, rfl, .ty _, .base (.bl _), kit_ty (by decide +kernel), _, rfl, q H1 (Ex.refl _)⟩
theorem ChM.at (c : ChM M H H') {a : Addr} {o : HO} (h : H a = some o) (n : ∀ xs, o ≠ .lst xs) : H' a = some o := c.keep a o h fun m => by
  obtain ⟨xs, hx⟩ := c.lst a m
  rw [h] at hx
  exact n xs (Option.some.inj hx)
theorem Dt.ch {v : V} {d : PyData} (h : Dt K M H v d) (c : ChM M H H') : Dt K M H' v d := Dt.move (fun a xs h n => ⟨c.keep a _ h n, n⟩) (fun a xs h => c.at h fun _ z => by cases z) d v h
theorem BookAt.ch (h : BookAt C M H p S) (c : ChM M H H') : BookAt C M H' p S := by
  obtain ⟨dx, l1, l2, h1, h2, h3, h4, h5⟩ := h
  exact ⟨dx, l1, l2, c.at h1 (fun _ z => by cases z), c.keep _ _ h2 h3, h3, c.keep _ _ h4 h5, h5⟩
/-- what stands already is not among what is new -/
theorem Dt.avoid {v : V} {d : PyData} (h : Dt K M H v d) (n : ∀ a, M' a → M a ∨ H a = none) : Dt K M' H v d := Dt.move (fun a xs h k => ⟨h, fun z => (n a z).elim k fun e => by rw [e] at h; cases h⟩) (fun a xs h => h) d v h
theorem BookAt.avoid (h : BookAt C M H p S) (n : ∀ a, M' a → M a ∨ H a = none) : BookAt C M' H p S := by
  obtain ⟨dx, l1, l2, h1, h2, h3, h4, h5⟩ := h
  refine ⟨dx, l1, l2, h1, h2, fun z => (n _ z).elim h3 fun e => ?_, h4, fun z => (n _ z).elim h5 fun e => ?_⟩
  · rw [e] at h2
    cases h2
  · rw [e] at h4
    cases h4
/-- one of some numbers -/
theorem evp_pick {ns : List Int} {n : Int} (hl : EvD K M tl σ H (.list (ns.map PyData.int))) (hb : Ev tb σ H (.ref b)) (hx : H b = some (Box b)) (hn : EvD K M tm σ H (.int n)) (en : n = (ns.length : Int)) (n0 : 0 < ns.length) (n1 : ns.length ≤ 1000) :
    EvP K M (tOp (rIxL K) tl (tCall spTake [] E (tCons tb (tCons tm tNil)))) σ H (fun d => ∃ z, d = .int z ∧ z ∈ ns) :=
  evp_op hl (evp_take hb hx hn (by omega) (Nat.lt_of_le_of_lt (show n.natAbs ≤ 1000 by omega) (by decide))) fun x y a dd H7 e7 dx dy px py Q q => by
    obtain ⟨k, rfl, k0, k1⟩ := py
    subst px
    cases dy
    cases dx with
    | lst w1 w2 w3 =>
    have ew := Dts.ints ns w3
    subst ew
    obtain ⟨j, rfl⟩ := Int.eq_ofNat_of_zero_le k0
    have hj : ns[j]? = some (ns[j]'(by omega)) := List.getElem?_eq_getElem _
    exact ⟨_, _, _, _, rfl, rfl, sq_of w1, atI_nat (by rw [List.getElem?_map, hj]; rfl), q _ _ H7 (Ex.refl _) (.int _) ⟨_, rfl, List.mem_of_getElem? hj⟩⟩
end
theorem q_parR {ta tb : TE} {i j : Nat} {tz : TS} {D : Ends} {σ : L2.St} {H : Hp} (h : ta σ H fun x H1 => tb σ H1 fun y H2 => ∃ v w, [x, y] = [v, w] ∧ tz D ((σ.set i (some v)).set j (some w)) H2) : tSeq (tPar i j (tCons ta (tCons tb tNil))) tz D σ H := h
abbrev sAreLiked : Stmt := top 18
def spAreLiked (K : PySem.W.Frag) : Sp := fun vs H Q _ => ∃ (M : Addr → Prop) (v : V) (ls : List Int) (m : Int), vs = [v, .int m] ∧ Dt K M H v (listI ls) ∧ ∀ H', Ex H H' → Q (.bl (likB m (-1) ls)) H'
section
variable {P : Program} {w : World} {K : PySem.W.Frag} {mg : Str → Option Value} {base : Heap}
abbrev nAreLiked : List Str := ["liked", "moods", "before", "mood"]
theorem scAreLiked : FnScope nAreLiked ["liked", "moods"] (defScope sAreLiked) := ⟨rfl, rfl, rfl, by decide +kernel, rfl, by decide +kernel, by decide +kernel⟩
theorem ok_areliked {f : Addr} {fd : FuncData} (F : Fun K "are_liked" "are_liked" sAreLiked f fd) : FnOk P w K mg base CX0 1 f fd ["liked", "moods"] (spAreLiked K) := by
  refine F.ok scAreLiked (fun vs H Q E h => ?_) (fun cdv A outer s0 H vs Q E hr h => ?_)
  · obtain ⟨M, v, ls, m, rfl, _⟩ := h
    rfl
  · obtain ⟨M, v, ls, m, rfl, hv, q⟩ := h
    refine ⟨_, pss_cons (ps_set (i := 2) scAreLiked.nd rfl (.inl rfl) (pe_un un_neg pe_int))
      (pss_cons (ps_for PassesOwn.never rfl (pi_list (pv 0)) (pg_name (i := 3) scAreLiked.nd rfl (.inl rfl))
        (pss_cons (ps_if (pt_not (pt_chain op_lt op_lt (pv 2) (pv 3) (pv 1))) (pss_one (ps_ret pe_bl)) pss_nil)
        (pss_one (ps_set (i := 2) scAreLiked.nd rfl (.inl rfl) (pv 3)))))
      (pss_one (ps_ret pe_bl))), ?_⟩
    have hv0 := hv
    unfold listI at hv
    cases hv with
    | lst h1 h2 h3 =>
    rename_i a xs
    have ew := h3.ints
    subst ew
    refine ⟨1, rfl, ?_⟩
    refine q_forL (K := K) (a := a) (xs := ls.map V.int) (ev_var (i := 0) rfl) (sq_of h1)
      (fun i σ' H' => Ex H H' ∧ ∃ (b : Int) (u : Option V), σ' = [some (.ref a), some (.int m), some (.int b), u] ∧ likB m (-1) ls = likB m b (ls.drop i))
      (fun H1 e1 => ⟨e1, -1, none, rfl, rfl⟩) (fun i σ' H' _ z => sq_of (z.1 _ _ h1)) ?_ ?_
    · rintro i x σ' H1 hx ⟨e, b, u, rfl, hd⟩
      rw [List.getElem?_map] at hx
      cases hz : ls[i]? with
      | none =>
        rw [hz] at hx
        cases hx
      | some z =>
      rw [hz] at hx
      cases hx
      obtain ⟨hlt, ez⟩ := List.getElem?_eq_some_iff.mp hz
      have ed : ls.drop i = z :: ls.drop (i + 1) := by rw [List.drop_eq_getElem_cons hlt, ez]
      rw [ed, likB] at hd
      refine q_when (evt_not (evt_test (K := K) (M := MF) (evd_chainI (g := fun i j => decide (i < j)) (g' := fun i j => decide (i < j)) (evd_var (i := 2) rfl (.int b)) (evd_var (i := 3) rfl (.int z)) (evd_var (i := 1) rfl (.int m))))) (fun hb H2 e2 => ?_) (fun hb H2 e2 => ?_)
      · rw [Bool.not_eq_true'] at hb
        rw [hb] at hd
        have := q H2 (e.trans e2)
        rw [hd] at this
        exact this
      · rw [Bool.not_eq_false'] at hb
        rw [hb, Bool.true_and] at hd
        exact ⟨_, rfl, e.trans e2, z, _, rfl, hd⟩
    · rintro σ' H1 ⟨e, b, u, rfl, hd⟩
      rw [List.length_map, List.drop_length, likB] at hd
      have := q H1 e
      rw [hd] at this
      exact this
end
end TH
set_option maxRecDepth 100000
set_option maxHeartbeats 4000000
namespace TH
open PySem L2 Evl
abbrev sLed : Stmt := top 11
/-! ### what a row leads to, from the leaves -/
def foldT (F : Nat → List PyData → PyData) : Tr → PyData
  | .n0 s => F s []
  | .n1 s t => F s [foldT F t]
  | .n2 s t u => F s [foldT F t, foldT F u]
theorem foldT_eq (F : Nat → List PyData → PyData) (t : Tr) : foldT F t = F t.root (t.kids.map (foldT F)) := by
  cases t <;> rfl
def waitF (F : Nat → List PyData → PyData) (ts : List Tr) : List PyData := (ts.map (foldT F)).reverse
theorem waitF_cons (F : Nat → List PyData → PyData) (t : Tr) (ts : List Tr) : waitF F (t :: ts) = waitF F ts ++ [foldT F t] := by
  unfold waitF
  rw [List.map_cons, List.reverse_cons]
theorem waitF_len (F : Nat → List PyData → PyData) (ts : List Tr) : (waitF F ts).length = ts.length := by
  unfold waitF
  rw [List.length_reverse, List.length_map]
theorem kidsNum' {S : List Sg} (hK : KidsOk S) {t : Tr} (hO : OkT S t) : ∃ r, S[t.root]? = some r ∧ r.2 = (t.kids.length : Int) := by
  have hrt : t.root < S.length := hO.root
  have hSr : S[t.root]? = some (S[t.root]'hrt) := List.getElem?_eq_getElem hrt
  refine ⟨_, hSr, ?_⟩
  have h1 := hO.ark
  rw [ks_of hSr] at h1
  have := hK _ (List.mem_of_getElem? hSr)
  omega
theorem okTsuf' {S : List Sg} {t u : Tr} {us : List Tr} {n : Nat} (hO : OkT S t) (h : Tr.suf n [t] = u :: us) : OkT S u :=
  Tr.okF_suf n (ts := [t]) (fun x hx => by rw [List.mem_singleton.mp hx]; exact hO) u (by rw [h]; exact List.mem_cons_self)
theorem woodLen' : ∀ ts : List Tr, ts.length ≤ Tr.sizeF ts
  | [] => Nat.le_refl _
  | t :: ts => by
    rw [Tr.sizeF_cons, List.length_cons]
    have := Tr.size_pos t
    have := woodLen' ts
    omega
theorem Dts.unsnoc {K : PySem.W.Frag} {M : Addr → Prop} {H : Hp} : ∀ {ds : List PyData} {d : PyData} {vs : List V}, Dts K M H vs (ds ++ [d]) → ∃ ws v, vs = ws ++ [v] ∧ Dts K M H ws ds ∧ Dt K M H v d
  | [], d, _, .cons h .nil => ⟨[], _, rfl, .nil, h⟩
  | e :: ds, d, _, .cons h t => by
    obtain ⟨ws, v, rfl, h1, h2⟩ := Dts.unsnoc t
    exact ⟨_ :: ws, v, rfl, .cons h h1, h2⟩
def spLed (K : PySem.W.Frag) (CB g : Addr) (sp : Sp) : Sp := fun vs H Q _ => ∃ (pb q a : Addr) (v : V) (S : List Sg) (t : Tr) (F : Nat → List PyData → PyData), vs = [.ref pb, v, .ref q] ∧ BookAt CB MF H pb S ∧ KidsOk S ∧ Dt K MF H v (rowD t) ∧ OkT S t ∧ t.size ≤ 1000 ∧ H q = some (.met g a) ∧
  (∀ (u : Tr) (z : V) (H1 : Hp) (Q1 : VK) (E1 : XK), Ex H H1 → OkT S u → Dt K MT H1 z (.tuple (u.kids.map (foldT F))) → (∀ x H2, Ex H1 H2 → Dt K MT H2 x (foldT F u) → Q1 x H2) → sp [.ref a, .int (u.root : Int), z] H1 Q1 E1) ∧
  ∀ x H', Ex H H' → Dt K MT H' x (foldT F t) → Q x H'
section
variable {P : Program} {w : World} {K : PySem.W.Frag} {mg : Str → Option Value} {base : Heap} {CB : Addr}
abbrev nLed : List Str := ["book", "row", "lead", "waiting", "sign", "kids", "_"]
theorem scLed : FnScope nLed ["book", "row", "lead"] (defScope sLed) := ⟨rfl, rfl, rfl, by decide +kernel, rfl, by decide +kernel, by decide +kernel⟩
theorem ok_led {f g : Addr} {fd : FuncData} {sp : Sp} {k : Nat} (F : Fun K "led" "led" sLed f fd) (G : Glob mg) (GR : GlobR mg) (GU : GlobU mg) (B : BookK P w K mg base CB) (Fg : FnR P w K mg base CX0 k g sp) (hk1 : 1 ≤ k) (fi : PySem.W.fnIn K g = true) :
    FnOk P w K mg base CX0 (k + 1) f fd ["book", "row", "lead"] (spLed K CB g sp) := by
  obtain ⟨T, _, ⟨f2, d2, m2, g2, b2⟩⟩ := B
  refine F.ok scLed (fun vs H Q E h => ?_) (fun cdv A outer s0 H vs Q E hr h => ?_)
  · obtain ⟨pb, q, a, v, S, t, F, rfl, _⟩ := h
    rfl
  · obtain ⟨pb, qm, am, v, S, t, F, rfl, hB, hK, hv, hO, hN, hq, hlead, q⟩ := h
    have hr1 : Room 1 _ := hr.mono hk1
    refine ⟨_, pss_cons (ps_set (i := 3) scLed.nd rfl (.inl rfl) (pe_lst pa_nil))
      (pss_cons (ps_for PassesOwn.never rfl (RT.pi_revA (by rfl) GR.reversed (pv 1)) (pg_name (i := 4) scLed.nd rfl (.inl rfl))
        (pss_cons (ps_set (i := 5) scLed.nd rfl (.inl rfl) (pe_lst pa_nil))
        (pss_cons (ps_for PassesOwn.never rfl (pi_range1 rfl G.range (pa_cons (pe_meth (pv 0) T.cl m2 g2 hr1 b2 .nil pass0 (pa_cons (pv 4) pa_nil)) pa_nil)) (pg_name (i := 6) scLed.nd rfl (.inl rfl))
          (pss_one (ps_expr (pe_bm PySem.F.plainAttrs_list PySem.F.slot_list_append PySem.F.type_list_append mt_append (pv 5) (pa_cons (pe_bm0 PySem.F.plainAttrs_list PySem.F.slot_list_pop PySem.F.type_list_pop mt_pop (pv 3)) pa_nil)))))
        (pss_one (ps_expr (pe_bm PySem.F.plainAttrs_list PySem.F.slot_list_append PySem.F.type_list_append mt_append (pv 3) (pa_cons (pe_callM (pv 2) Fg hr pass0 fi (pa_cons (pv 4) (pa_cons (pe_callTy call_tuple_of (by rfl) GU.tuple (by decide +kernel) (pa_cons (pv 5) pa_nil)) pa_nil))) pa_nil)))))))
      (pss_one (ps_ret (pe_ix ix_list (pv 3) pe_int (fun _ _ => rfl))))), ?_⟩
    obtain ⟨a, rfl, hS⟩ := dt_tupS hv
    have hlen : ((ofN t.row).map V.int).length = t.size := by rw [List.length_map, ofN_len]; rfl
    refine ⟨by decide, fun lw hw => ?_⟩
    have e1 : Ex H (upd H lw (.lst [])) := Ex.new hw
    have hw1 : (upd H lw (.lst [])) lw = some (.lst []) := upd_same
    generalize upd H lw (.lst []) = H1 at e1 hw1
    refine ⟨_, rfl, a, _, rfl, .inr ⟨SqT.of (e1 _ _ hS), RT.for_ItvT (fun i σ' H' => Ex H H' ∧ ∃ u4 u5 u6 xs, σ' = [some (.ref pb), some (.ref a), some (.ref qm), some (.ref lw), u4, u5, u6] ∧ H' lw = some (.lst xs) ∧ Dts K MT H' xs (waitF F (Tr.suf (t.size - i) [t])) ∧ i ≤ t.size)
      ⟨e1, none, none, none, [], rfl, hw1, ?_, Nat.zero_le _⟩ (fun i σ' H' h => SqT.of (h.1 _ _ hS)) ?_ ?_⟩⟩
    · rw [Nat.sub_zero, Tr.suf_nil.mpr (by rw [Tr.size_one]; exact Nat.le_refl _)]
      exact .nil
    · rintro i x σ' H2 hi hx ⟨e2, u4, u5, u6, xs, rfl, hw2, dw2, _⟩
      rw [hlen] at hi hx
      have hpN : t.size - 1 - i < Tr.sizeF [t] := by rw [Tr.size_one]; omega
      obtain ⟨u, us, hu, hroot⟩ := Tr.suf_cons hpN
      generalize hp : t.size - 1 - i = p' at hpN hu hroot hx
      have e0 : t.size - i = p' + 1 := by omega
      rw [Tr.row_one] at hroot
      have hx' : ((ofN t.row).map V.int)[p']? = some (.int (u.root : Int)) := by rw [List.getElem?_map, ofN_at hroot]; rfl
      rw [hx'] at hx
      cases hx
      have hOu : OkT S u := okTsuf' hO hu
      have hsuc : Tr.suf (p' + 1) [t] = u.kids ++ us := by rw [Tr.suf_succ, hu]; rfl
      rw [e0, hsuc] at dw2
      obtain ⟨r, hr1, hr2⟩ := kidsNum' hK hOu
      have hk2 := Tr.kids_le u
      have hul : us.length + 1 ≤ t.size := by
        have h1 := woodLen' (Tr.suf p' [t])
        have h2 := Tr.rowF_suf p' [t]
        have h3 : Tr.sizeF (Tr.suf p' [t]) ≤ t.size := by
          unfold Tr.sizeF
          rw [h2, List.length_drop, Tr.row_one]
          exact Nat.sub_le _ _
        rw [hu, List.length_cons] at h1
        rw [hu] at h3
        omega
      refine ⟨by decide, fun lk hlk => ?_⟩
      have hne : lw ≠ lk := ne_of_none hw2 hlk
      have hlkH : H lk = none := fresh_back e2 hlk
      have hwH : H lw = none := hw
      have e3 : Ex H (upd H2 lk (.lst [])) := e2.trans (Ex.new hlk)
      have hw3 : (upd H2 lk (.lst [])) lw = some (.lst xs) := by rw [upd_ne hne]; exact hw2
      have dw3 : Dts K MT (upd H2 lk (.lst [])) xs (waitF F (u.kids ++ us)) := dw2.ex (Ex.new hlk)
      have hk3 : (upd H2 lk (.lst [])) lk = some (.lst []) := upd_same
      generalize upd H2 lk (.lst []) = H3 at e3 hw3 dw3 hk3
      refine q_forR1 (ea_cons (ev_ofI (K := K) (M := MF) (evd_kids (j := u.root) rfl (hB.ex e3) (evd_var (i := 4) rfl (.int _)) rfl hr1)) ea_nil) (by omega)
        (fun j σ' H' => Ex H H' ∧ ∃ u6 xs ys, σ' = [some (.ref pb), some (.ref a), some (.ref qm), some (.ref lw), some (.int (u.root : Int)), some (.ref lk), u6] ∧ H' lw = some (.lst xs) ∧ Dts K MT H' xs (waitF F (u.kids.drop j ++ us)) ∧ H' lk = some (.lst ys) ∧ Dts K MT H' ys ((u.kids.take j).map (foldT F)))
        (fun H4 e4 => ⟨e3.trans e4, _, xs, [], rfl, e4 _ _ hw3, by rw [List.drop_zero]; exact dw3.ex e4, e4 _ _ hk3, .nil⟩) ?_ ?_
      · rintro j σ'' H4 hj ⟨e4, u6, xs4, ys4, rfl, hw4, dw4, hk4, dk4⟩
        rw [hr2] at hj
        have hj' : j < u.kids.length := by omega
        have hk : u.kids[j]? = some (u.kids[j]'hj') := List.getElem?_eq_getElem _
        generalize u.kids[j]'hj' = kd at hk
        have hd : u.kids.drop j = kd :: u.kids.drop (j + 1) := by
          obtain ⟨h1, h2⟩ := List.getElem?_eq_some_iff.mp hk
          rw [List.drop_eq_getElem_cons h1, h2]
        rw [hd, List.cons_append, waitF_cons] at dw4
        obtain ⟨ws, y, rfl, dws, dy⟩ := dw4.unsnoc
        have hlast : (ws ++ [y])[(ws ++ [y]).length - 1]? = some y := by
          rw [List.length_append, show ([y]).length = 1 from rfl, Nat.add_sub_cancel, List.getElem?_append_right (Nat.le_refl _), Nat.sub_self]
          rfl
        have hyl : ys4.length ≤ 2 := by
          have := dk4.length
          rw [List.length_map, List.length_take] at this
          omega
        refine ⟨_, rfl, .inl ⟨rfl, _, SqL.of hk4⟩, _, rfl, .inl ⟨rfl, _, SqL.of hw4⟩, lw, _, y, rfl, rfl, hw4, hlast, lk, ys4, y, rfl, rfl, by rw [upd_ne (Ne.symm hne)]; exact hk4, Nat.lt_of_le_of_lt hyl (by decide), ?_⟩
        have e5 : Ex H (upd H4 lw (.lst (ws ++ [y]).dropLast)) := Ex.mut e4 hwH
        have hk5 : (upd H4 lw (.lst (ws ++ [y]).dropLast)) lk = some (.lst ys4) := by rw [upd_ne (Ne.symm hne)]; exact hk4
        refine ⟨Ex.mut e5 hlkH, _, ws, ys4 ++ [y], rfl, ?_, ?_, upd_same, ?_⟩
        · rw [upd_ne hne, upd_same, List.dropLast_concat]
        · exact (dws.upd hw4 trivial).upd hk5 trivial
        · rw [Tr.take_snoc hk, List.map_append]
          exact ((dk4.append (.one dy)).upd hw4 trivial).upd hk5 trivial
      · rintro σ'' H4 ⟨e4, u6', xs4, ys4, rfl, hw4, dw4, hk4, dk4⟩
        rw [hr2, Int.toNat_natCast, List.take_length] at dk4
        rw [hr2, Int.toNat_natCast, List.drop_length, List.nil_append] at dw4
        refine ⟨_, rfl, .inl ⟨rfl, _, SqL.of hw4⟩, _, rfl, qm, am, rfl, _, rfl, _, rfl, lk, ys4, rfl, .inl ⟨sq_of hk4, fun tp htp => ?_⟩⟩
        have e5 : Ex H4 (upd H4 tp (.tup ys4)) := Ex.new htp
        refine ⟨(e4.trans e5) _ _ hq, hlead u (.ref tp) _ _ _ (e4.trans e5) hOu (.tup upd_same (dk4.ex e5)) fun x H6 e6 dx => ?_⟩
        have e46 := e5.trans e6
        have hw6 := e46 _ _ hw4
        refine ⟨lw, xs4, x, rfl, rfl, hw6, ?_, Ex.mut (e4.trans e46) hwH, _, _, _, xs4 ++ [x], rfl, upd_same, ?_, hi⟩
        · rw [dw4.length, waitF_len]
          exact Nat.lt_of_le_of_lt (show us.length ≤ 1000 by omega) (by decide)
        · rw [show t.size - (i + 1) = p' by omega, hu, waitF_cons]
          exact ((dw4.ex e46).append (.one dx)).upd hw6 trivial
    · rintro σ' H2 ⟨e2, u4, u5, u6, xs, rfl, hw2, dw2, _⟩
      rw [hlen, Nat.sub_self] at dw2
      have dw2 : Dts K MT H2 xs [foldT F t] := dw2
      cases dw2 with
      | cons h1 h2 =>
      cases h2
      exact ⟨_, rfl, lw, _, 0, _, rfl, rfl, SqL.of hw2, rfl, q _ H2 e2 h1⟩
end
end TH
set_option maxRecDepth 100000
set_option maxHeartbeats 4000000
namespace TH
open PySem L2 Evl
abbrev sChoices : Stmt := top 22
abbrev sPicks : Stmt := top 21
/-- all rows of n things, the last one running fastest -/
def chsG {α : Type} (xs : List α) : Nat → List (List α)
  | 0 => [[]]
  | n + 1 => (chsG xs n).flatMap fun r => xs.map fun x => r ++ [x]
theorem chsG_len {α : Type} (xs : List α) : ∀ n, (chsG xs n).length = xs.length ^ n
  | 0 => rfl
  | n + 1 => by
    show ((chsG xs n).flatMap fun r => xs.map fun x => r ++ [x]).length = _
    rw [flat_le _ (m := xs.length) (fun a => List.length_map ..), chsG_len xs n, Nat.pow_succ]
theorem chsG_map {α β : Type} (f : α → β) (xs : List α) : ∀ n, chsG (xs.map f) n = (chsG xs n).map (List.map f)
  | 0 => rfl
  | n + 1 => by
    show ((chsG (xs.map f) n).flatMap fun r => (xs.map f).map fun x => r ++ [x]) = ((chsG xs n).flatMap fun r => xs.map fun x => r ++ [x]).map (List.map f)
    rw [chsG_map f xs n, List.map_flatMap, List.flatMap_map]
    congr 1
    funext r
    rw [List.map_map, List.map_map]
    congr 1
    funext x
    simp
theorem chsG_row {α : Type} {xs : List α} : ∀ {n : Nat} {k : List α}, k ∈ chsG xs n → k.length = n ∧ ∀ x ∈ k, x ∈ xs
  | 0, k, h => by
    rw [List.mem_singleton.mp h]
    exact ⟨rfl, fun x h => nomatch h⟩
  | n + 1, k, h => by
    obtain ⟨r, hr, h2⟩ := List.mem_flatMap.mp h
    obtain ⟨x, hx, rfl⟩ := List.mem_map.mp h2
    obtain ⟨h3, h4⟩ := chsG_row hr
    refine ⟨by rw [List.length_append, h3]; rfl, fun y hy => ?_⟩
    rcases List.mem_append.mp hy with hy | hy
    · exact h4 y hy
    · rw [List.mem_singleton.mp hy]
      exact hx
theorem mem_chsG {α : Type} {xs : List α} : ∀ {n : Nat} {k : List α}, k.length = n → (∀ x ∈ k, x ∈ xs) → k ∈ chsG xs n
  | 0, k, h, _ => by
    rw [List.length_eq_zero_iff.mp h]
    exact List.mem_cons_self
  | n + 1, k, h, hk => by
    have hne : k ≠ [] := fun z => by rw [z] at h; cases h
    refine List.mem_flatMap.mpr ⟨k.dropLast, mem_chsG (by rw [List.length_dropLast, h]; rfl) fun x hx => hk x (List.dropLast_subset k hx), List.mem_map.mpr ⟨k.getLast hne, hk _ (List.getLast_mem hne), List.dropLast_concat_getLast hne⟩⟩
def spChoices (K : PySem.W.Frag) : Sp := fun vs H Q _ => ∃ (M : Addr → Prop) (v : V) (ds : List PyData) (c : Nat), vs = [v, .int (c : Int)] ∧ Ok M H ∧ Dt K M H v (.list ds) ∧ ds.length ≤ 250 ∧ c ≤ 2 ∧
  ∀ l refs H', H l = none → Ex H H' → H' l = some (.lst refs) → Dts K M H' refs ((chsG ds c).map PyData.tuple) → Q (.ref l) H'
def spPicks (K : PySem.W.Frag) : Sp := fun vs H Q _ => ∃ (M : Addr → Prop) (v : V) (ds : List PyData) (c : Nat), vs = [v] ∧ Ok M H ∧ Dt K M H v (.list (List.replicate c (.list ds))) ∧ ds.length ≤ 250 ∧ c ≤ 2 ∧
  ∀ l refs H', H l = none → Ex H H' → H' l = some (.lst refs) → Dts K M H' refs ((chsG ds c).map PyData.tuple) → Q (.ref l) H'
section
variable {P : Program} {w : World} {K : PySem.W.Frag} {mg : Str → Option Value} {base : Heap}
abbrev nPicks : List Str := ["lists", "told", "things", "choice", "thing"]
theorem scPicks : FnScope nPicks ["lists"] (defScope sPicks) := ⟨rfl, rfl, rfl, by decide +kernel, rfl, by decide +kernel, by decide +kernel⟩
theorem ok_picks {f : Addr} {fd : FuncData} (F : Fun K "picks" "picks" sPicks f fd) : FnOk P w K mg base CX0 1 f fd ["lists"] (spPicks K) := by
  refine F.ok scPicks (fun vs H Q E h => ?_) (fun cdv A outer s0 H vs Q E hr h => ?_)
  · obtain ⟨M, v, ds, c, rfl, _⟩ := h
    rfl
  · obtain ⟨M, v, ds, c, rfl, ok, hv, hd, hc, q⟩ := h
    refine ⟨_, pss_cons (ps_set (i := 1) scPicks.nd rfl (.inl rfl) (pe_lst (pa_cons (pe_tup pa_nil) pa_nil)))
      (pss_cons (ps_for PassesOwn.never rfl (pi_list (pv 0)) (pg_name (i := 2) scPicks.nd rfl (.inr rfl))
        (pss_one (ps_setLc2 (i := 1) (own := [("choice", 3), ("thing", 4)]) (vs1 := [4]) (g := gName 3) (g1 := gName 4) (tt := tYes) (tt1 := tYes) (by rfl) scPicks.nd rfl rfl (sw_true rfl rfl rfl (by decide +kernel)) (pi_list (pv 1))
          (blkOk_by (N := nPicks) (sc := defScope sPicks) (by decide +kernel)) (by decide) (fun _ _ _ _ _ => pg_name (i := 3) scPicks.nd rfl (.inl rfl)) (fun _ _ _ _ _ => pts_nil)
          (fun _ _ _ _ _ => pi_listK (K := K) rfl (pv 2)) (fun _ _ _ _ _ => pg_name (i := 4) scPicks.nd rfl (.inl rfl)) (fun _ _ _ _ _ => pts_nil)
          (fun _ _ _ _ _ => pe_op (op_catAK (K := K) rfl) (pv 3) (pe_tup (pa_cons (pv 4) pa_nil))))))
      (pss_one (ps_ret (pv 1)))), ?_⟩
    obtain ⟨a, xs, rfl, ha, h3⟩ : ∃ a xs, v = .ref a ∧ H a = some (.lst xs) ∧ Dts K M H xs (List.replicate c (.list ds)) := by
      cases hv with
      | lst h1 h2 h3 => exact ⟨_, _, rfl, h1, h3⟩
    have hxl : xs.length = c := by rw [h3.length, List.length_replicate]
    refine ⟨by show 0 ≤ sizeLine; decide, fun t0 ht0 => ⟨by show 1 ≤ sizeLine; decide, fun l0 hl0 => ?_⟩⟩
    have e1 : Ex H (upd (upd H t0 (.tup [])) l0 (.lst [.ref t0])) := (Ex.new ht0).trans (Ex.new hl0)
    have hl0H : H l0 = none := fresh_back (Ex.new ht0) hl0
    have h1 : (upd (upd H t0 (.tup [])) l0 (.lst [.ref t0])) l0 = some (.lst [.ref t0]) := upd_same
    have h2 : (upd (upd H t0 (.tup [])) l0 (.lst [.ref t0])) t0 = some (.tup []) := (Ex.new hl0) _ _ upd_same
    generalize upd (upd H t0 (.tup [])) l0 (.lst [.ref t0]) = H1 at e1 h1 h2
    refine ⟨_, rfl, a, rfl, ⟨xs, sq_of (e1 _ _ ha)⟩, for_list (K := K) (a := a) (xs := xs)
      (fun i σ' H' => Ex H H' ∧ i ≤ c ∧ ∃ (l : Addr) (refs : List V) (u3 : Option V), σ' = [some (.ref a), some (.ref l), u3, none, none] ∧ H l = none ∧ H' l = some (.lst refs) ∧ Dts K M H' refs ((chsG ds i).map PyData.tuple))
      ⟨e1, Nat.zero_le _, l0, [.ref t0], none, rfl, hl0H, h1, .one (.tup h2 .nil)⟩ (fun i σ' H' _ z => sq_of (z.1 _ _ ha)) ?_ ?_⟩
    · rintro i x σ' H2 hx ⟨e2, hic, l, refs, u3, rfl, hl, hlr, dr⟩
      obtain ⟨d, hd1, dx0⟩ := h3.get hx
      have hic2 : i < c := by
        have := (List.getElem?_eq_some_iff.mp hx).1
        omega
      rw [List.getElem?_replicate, if_pos hic2] at hd1
      cases hd1
      have hi2 : i < 2 := by omega
      have len : ((chsG ds i).map PyData.tuple).length * ds.length < sizeLine := by
        rw [List.length_map, chsG_len, ← Nat.pow_succ]
        refine Nat.lt_of_le_of_lt (Nat.pow_le_pow_left hd (i + 1)) ?_
        have : i = 0 ∨ i = 1 := by omega
        rcases this with rfl | rfl <;> decide
      have hrow : ∀ a ∈ (chsG ds i).map PyData.tuple, ∃ r ∈ chsG ds i, a = .tuple r := fun a ha => by
        obtain ⟨r, hr, rfl⟩ := List.mem_map.mp ha
        exact ⟨r, hr, rfl⟩
      show tAsg _ (gName 1) _ [some (V.ref a), some (V.ref l), some x, none, none] H2
      refine evn_lc2LL (K := K) (M := M) (σ := [some (.ref a), some (.ref l), some x, none, none]) (vs := [3, 4]) (vs1 := [4]) (i := 3) (j := 4) (as := (chsG ds i).map PyData.tuple) (bs := ds) (fun a b => match a with | .tuple r => .tuple (r ++ [b]) | _ => .none) (ok.ex e2) (evd_var (i := 1) rfl (.lst hlr (fun z => ok l z hl) dr)) len (fun x => rfl) (fun x y => rfl)
        (fun M' x' H' hm ok' e => evd_var (i := 2) rfl (hm _ _ (dx0.ex e2))) (fun M' a b x y H' hm ok' ha hb e dx dy => ?_) H2 (Ex.refl _) _ fun l' xs es H3 hl' e3 hl3 dxs pes => ?_
      · obtain ⟨r, hr, rfl⟩ := hrow a ha
        have hrl := (chsG_row hr).1
        exact evd_catA (ds := r) (es := [b]) (evd_var (i := 3) rfl dx) (evd_tup (eva_cons (evd_var (i := 4) rfl dy) eva_nil) (by show 1 ≤ sizeLine; decide)) (by rw [hrl]; show i + 1 ≤ 100000; omega)
      · subst pes
        refine ⟨e2.trans e3, hic2, l', xs, _, rfl, fresh_back e2 hl', hl3, ?_⟩
        have : ((chsG ds i).map PyData.tuple).flatMap (fun a => ds.map fun b => (match a with | .tuple r => .tuple (r ++ [b]) | _ => .none : PyData)) = (chsG ds (i + 1)).map PyData.tuple := by
          show _ = ((chsG ds i).flatMap fun r => ds.map fun x => r ++ [x]).map PyData.tuple
          rw [List.flatMap_map, List.map_flatMap]
          congr 1
          funext r
          rw [List.map_map]
          rfl
        rw [← this]
        exact dxs
    · rintro σ' H2 ⟨e2, _, l, refs, u3, rfl, hl, hlr, dr⟩
      rw [hxl] at dr
      exact ⟨_, rfl, q l refs H2 hl e2 hlr dr⟩
abbrev nChoices : List Str := ["things", "kids"]
theorem scChoices : FnScope nChoices ["things", "kids"] (defScope sChoices) := ⟨rfl, rfl, rfl, by decide +kernel, rfl, by decide +kernel, by decide +kernel⟩
theorem ok_choices {f : Addr} {fd : FuncData} (F : Fun K "choices" "choices" sChoices f fd) (B : OneF P w K mg base "picks" 1 ["lists"] (spPicks K)) : FnOk P w K mg base CX0 2 f fd ["things", "kids"] (spChoices K) := by
  obtain ⟨f1, d1, m1, k1, g1, b1⟩ := B
  refine F.ok scChoices (fun vs H Q E h => ?_) (fun cdv A outer s0 H vs Q E hr h => ?_)
  · obtain ⟨M, v, ds, c, rfl, _⟩ := h
    rfl
  · obtain ⟨M, v, ds, c, rfl, ok, hv, hd, hc, q⟩ := h
    refine ⟨_, pss_one (ps_ret (pe_call g1 hr rfl m1 k1 b1 .nil pass0 (pa_cons (pe_op op_rep (pe_lst (pa_cons (pv 0) pa_nil)) (pv 1)) pa_nil))), ?_⟩
    refine ⟨_, rfl, by show 1 ≤ sizeLine; decide, fun l0 hl0 => ⟨_, rfl, l0, (c : Int), [v], rfl, rfl, upd_same, by omega, by omega, ?_, fun p hp => ?_⟩⟩
    · show 1 * (c : Int).toNat ≤ sizeLine
      rw [Int.toNat_natCast]
      exact Nat.le_trans (show 1 * c ≤ 2 by omega) (by decide)
    have e0 : Ex H (upd H l0 (.lst [v])) := Ex.new hl0
    have e1 : Ex H (upd (upd H l0 (.lst [v])) p (.lst (List.replicate (c : Int).toNat [v]).flatten)) := e0.trans (Ex.new hp)
    have hpH : H p = none := fresh_back e0 hp
    have h1 : (upd (upd H l0 (.lst [v])) p (.lst (List.replicate (c : Int).toNat [v]).flatten)) p = some (.lst (List.replicate c v)) := by
      rw [upd_same, Int.toNat_natCast]
      congr 2
      clear hp hd hc q e1
      induction c with
      | zero => rfl
      | succ n ih => rw [List.replicate_succ, List.flatten_cons, ih, List.replicate_succ]; rfl
    generalize upd (upd H l0 (.lst [v])) p (.lst (List.replicate (c : Int).toNat [v]).flatten) = H1 at e1 h1
    have dd : Dts K M H1 (List.replicate c v) (List.replicate c (.list ds)) := by
      have hv1 := hv.ex e1
      clear hd hc q h1
      induction c with
      | zero => exact .nil
      | succ n ih => exact .cons hv1 ih
    exact ⟨M, .ref p, ds, c, rfl, ok.ex e1, .lst h1 (fun z => ok p z hpH) dd, hd, hc, fun l refs H' hl e hlr dr => q l refs H' (fresh_back e1 hl) (e1.trans e) hlr dr⟩
end
end TH
set_option maxRecDepth 100000
set_option maxHeartbeats 4000000
namespace TH
open PySem L2 Evl
abbrev sLChG : Stmt := top 46
/-- data in which no list stands: what is told of the lists is nothing to them -/
def FlD (K : PySem.W.Frag) (ds : List PyData) : Prop := ∀ d ∈ ds, ∀ (M M' : Addr → Prop) (H : Hp) (v : V), Dt K M H v d → Dt K M' H v d
theorem dts_FlD {K : PySem.W.Frag} {M M' : Addr → Prop} {H : Hp} : ∀ {ds : List PyData} {vs : List V}, FlD K ds → Dts K M H vs ds → Dts K M' H vs ds
  | [], _, _, .nil => .nil
  | d :: ds, _, f, .cons h r => .cons (f d List.mem_cons_self M M' H _ h) (dts_FlD (fun d hd => f d (List.mem_cons_of_mem _ hd)) r)
theorem dt_tupF {K : PySem.W.Frag} {M M' : Addr → Prop} {H : Hp} {k : List PyData} {v : V} (f : FlD K k) (h : Dt K M H v (.tuple k)) : Dt K M' H v (.tuple k) := by
  cases h with
  | tup h1 h2 => exact .tup h1 (dts_FlD f h2)
theorem dts_tupF {K : PySem.W.Frag} {M M' : Addr → Prop} {H : Hp} : ∀ {ks : List (List PyData)} {xs : List V}, (∀ k ∈ ks, FlD K k) → Dts K M H xs (ks.map PyData.tuple) → Dts K M' H xs (ks.map PyData.tuple)
  | [], _, _, .nil => .nil
  | k :: ks, _, f, .cons h r => .cons (dt_tupF (f k List.mem_cons_self) h) (dts_tupF (fun k hk => f k (List.mem_cons_of_mem _ hk)) r)
theorem flD_ints (K : PySem.W.Frag) (ns : List Int) : FlD K (ns.map PyData.int) := fun d hd M M' H v h => by
  obtain ⟨i, _, rfl⟩ := List.mem_map.mp hd
  cases h
  exact .int i
theorem flD_tups (K : PySem.W.Frag) (ks : List (List Int)) : FlD K (ks.map tupI) := fun d hd M M' H v h => by
  obtain ⟨i, _, rfl⟩ := List.mem_map.mp hd
  exact dt_any h
def spLChG (K : PySem.W.Frag) : Sp := fun vs H Q _ => ∃ (v : V) (xs : List PyData) (c : Nat), vs = [v, .int (c : Int)] ∧ Dt K MF H v (.list xs) ∧ FlD K xs ∧ c ≤ 2 ∧ xs.length ≤ 40 ∧
  ∀ l refs H', H l = none → Ex H H' → H' l = some (.lst refs) → Dts K MT H' refs ((chsG xs c).map PyData.tuple) → Q (.ref l) H'
theorem chsG_small {α : Type} {xs : List α} (h : xs.length ≤ 40) {c : Nat} (hc : c ≤ 2) : (chsG xs c).length ≤ 1600 := by
  rw [chsG_len]
  have h1 : xs.length ^ c ≤ 40 ^ c := Nat.pow_le_pow_left h _
  have h2 : (40 : Nat) ^ c ≤ 40 ^ 2 := Nat.pow_le_pow_right (by decide) hc
  omega
theorem evA_oneG {te : TE} {σ : L2.St} {H : Hp} {v : V} (h : Ev te σ H v) : EvA (tCons te tNil) σ H [v] := fun H1 e Q q => h H1 e _ fun H2 e2 => q H2 e2
section
variable {P : Program} {w : World} {K : PySem.W.Frag} {mg : Str → Option Value} {base : Heap}
abbrev nLChG : List Str := ["_law_things", "_law_count", "_law_rows", "_law_turn", "_law_longer", "_law_row", "_law_thing"]
theorem scLChG : FnScope nLChG ["_law_things", "_law_count"] (defScope sLChG) := ⟨rfl, rfl, rfl, by decide +kernel, rfl, by decide +kernel, by decide +kernel⟩
theorem ok_lchg {f : Addr} {fd : FuncData} (F : Fun K "_law_choices" "_law_choices" sLChG f fd) (G : Glob mg) :
    FnOk P w K mg base CX0 1 f fd ["_law_things", "_law_count"] (spLChG K) := by
  refine F.ok scLChG (fun vs H Q E h => ?_) (fun cdv A outer s0 H vs Q E hr h => ?_)
  · obtain ⟨v, xs, c, rfl, _⟩ := h
    rfl
  · obtain ⟨v, xs, c, rfl, hv, hfl, hc, h6, q⟩ := h
    refine ⟨_, pss_cons (ps_set (i := 2) scLChG.nd rfl (.inl rfl) (pe_lst (pa_cons (pe_tup pa_nil) pa_nil)))
      (pss_cons (ps_for PassesOwn.never rfl (pi_range1 rfl G.range (pa_cons (pv 1) pa_nil)) (pg_name (i := 3) scLChG.nd rfl (.inl rfl))
        (pss_cons (ps_set (i := 4) scLChG.nd rfl (.inl rfl) (pe_lst pa_nil))
        (pss_cons (ps_for PassesOwn.never rfl (pi_list (pv 2)) (pg_name (i := 5) scLChG.nd rfl (.inr rfl))
          (pss_one (ps_expr (pe_bm PySem.F.plainAttrs_list PySem.F.slot_list_extend PySem.F.type_list_extend mt_extend (pv 4)
            (pa_cons (pe_lc (own := [("_law_thing", 6)]) (g := gName 6) (tt := tYes) rfl scLChG.nd (pi_list (pv 0))
              (blkOk_by (N := nLChG) (sc := defScope sLChG) (by decide +kernel)) (fun _ _ _ _ _ => pg_name (i := 6) scLChG.nd rfl (.inl rfl)) (fun _ _ _ _ _ => pts_nil)
              (fun _ _ _ _ _ => pe_op (op_catAK (K := K) rfl) (pv 5) (pe_tup (pa_cons (pv 6) pa_nil)))) pa_nil)))))
        (pss_one (ps_set (i := 2) scLChG.nd rfl (.inl rfl) (pv 4))))))
      (pss_one (ps_ret (pv 2)))), ?_⟩
    refine ⟨by show 0 ≤ sizeLine; decide, fun lt hlt => ⟨by show 1 ≤ sizeLine; decide, fun lr hlr => ?_⟩⟩
    have hlrH : H lr = none := fresh_back (Ex.new hlt) hlr
    have e1 : Ex H (upd (upd H lt (.tup [])) lr (.lst [.ref lt])) := (Ex.new hlt).trans (Ex.new hlr)
    have hne : lt ≠ lr := ne_of_none (upd_same (H := H) (a := lt)) hlr
    have hr1 : (upd (upd H lt (.tup [])) lr (.lst [.ref lt])) lr = some (.lst [.ref lt]) := upd_same
    have hr2 : (upd (upd H lt (.tup [])) lr (.lst [.ref lt])) lt = some (.tup []) := by rw [upd_ne hne]; exact upd_same
    generalize upd (upd H lt (.tup [])) lr (.lst [.ref lt]) = H1 at e1 hr1 hr2
    refine q_forR1 (n := (c : Int)) (evA_oneG (ev_var rfl)) (by omega)
      (fun i σ' H' => Ex H H' ∧ ∃ r refs u3 u4 u5, σ' = [some v, some (.int (c : Int)), some (.ref r), u3, u4, u5, none] ∧ H r = none ∧ H' r = some (.lst refs) ∧ Dts K MT H' refs ((chsG xs i).map PyData.tuple))
      (fun H2 e2 => ⟨e1.trans e2, lr, _, none, none, none, rfl, hlrH, e2 _ _ hr1, .cons (.tup (e2 _ _ hr2) .nil) .nil⟩) ?_ ?_
    · rintro i σ' H2 hi ⟨e2, r, refs, u3, u4, u5, rfl, hrH, hr2, dr⟩
      have hic : i ≤ 2 := by omega
      have h36 := chsG_small h6 hic
      refine ⟨by show 0 ≤ sizeLine; decide, fun l hl => ?_⟩
      have hlH : H l = none := fresh_back e2 hl
      have hrl : r ≠ l := ne_of_none hr2 hl
      have e3 : Ex H2 (upd H2 l (.lst [])) := Ex.new hl
      have hl3 : (upd H2 l (.lst [])) l = some (.lst []) := upd_same
      generalize upd H2 l (.lst []) = H3 at e3 hl3
      have hlen : refs.length = (chsG xs i).length := by rw [dr.length, List.length_map]
      refine q_forL (K := K) (a := r) (xs := refs) (ev_var rfl) (sq_of (e3 _ _ hr2))
        (fun j σ' H' => Ex H H' ∧ H' r = some (.lst refs) ∧ Dts K MT H' refs ((chsG xs i).map PyData.tuple) ∧ ∃ u5 ys, σ' = [some v, some (.int (c : Int)), some (.ref r), some (.int (i : Int)), some (.ref l), u5, none] ∧ H' l = some (.lst ys) ∧
          Dts K MT H' ys ((((chsG xs i).take j).flatMap fun k => xs.map fun x => k ++ [x]).map PyData.tuple) ∧ ys.length ≤ j * 40)
        (fun H4 e4 => ⟨(e2.trans e3).trans e4, e4 _ _ (e3 _ _ hr2), dr.ex (e3.trans e4), u5, [], rfl, e4 _ _ hl3, .nil, Nat.zero_le _⟩) (fun j σ' H' _ h => sq_of h.2.1) ?_ ?_
      · rintro j x σ' H4 hx ⟨e4, hr4, dr4, u5', ys, rfl, hl4, dys, hys⟩
        obtain ⟨hjx, _⟩ := List.getElem?_eq_some_iff.mp hx
        obtain ⟨d, hd, dx⟩ := dr4.get hx
        rw [List.getElem?_map] at hd
        cases hk : (chsG xs i)[j]? with
        | none =>
          rw [hk] at hd
          cases hd
        | some k =>
        rw [hk] at hd
        cases hd
        have hkr := chsG_row (List.mem_of_getElem? hk)
        have hkl := hkr.1
        have hkf : FlD K k := fun d hd => hfl d (hkr.2 d hd)
        refine ⟨_, rfl, .inl ⟨rfl, _, SqL.of hl4⟩, (evn_lcM (K := K) (M := MF) (bs := xs) (enc := id) (F := fun x => PyData.tuple (k ++ [x])) okF (EvP.mono (evd_var (i := 0) rfl (hv.ex e4)) fun d h => by rw [h, List.map_id]) (Nat.lt_of_le_of_lt h6 (by decide)) (fun M' b x' H' hm ok' hb e dx' Qg qg => ?_)) H4 (Ex.refl _) _ fun l2 zs ds H5 hl2 e5 hl5 dzs pd => ?_⟩
        · refine qg _ H' (Ex.refl _) ⟨rfl, evt_yes, fun _ => ?_⟩
          exact evd_catA (ds := k) (es := [b]) (evd_var (i := 5) (d := .tuple k) rfl (dt_tupF hkf (dx.ex e))) (evd_tup (eva_cons (evd_var (i := 6) rfl dx') eva_nil) (by show 1 ≤ sizeLine; decide)) (by rw [hkl]; show i + 1 ≤ _; omega)
        · subst pd
          have zl := dzs.length
          rw [List.length_map] at zl
          have hl4' := e5 _ _ hl4
          have pe : (xs.map fun x => PyData.tuple (k ++ [x])) = (xs.map fun x => k ++ [x]).map PyData.tuple := by rw [List.map_map]; rfl
          rw [pe] at dzs
          refine ⟨l, l2, ys, zs, rfl, rfl, hl4', hl5, Nat.le_trans (show ys.length + zs.length ≤ 80000 by omega) (by decide), ?_⟩
          have dT : ∀ {ks : List (List PyData)} {vs : List V}, Dts K MT H5 vs (ks.map PyData.tuple) → Dts K MT (upd H5 l (.lst (ys ++ zs))) vs (ks.map PyData.tuple) := fun h => h.upd hl4' trivial
          refine ⟨Ex.mut (e4.trans e5) hlH, by rw [upd_ne hrl]; exact e5 _ _ hr4, dT (dr4.ex e5), _, ys ++ zs, rfl, upd_same, ?_, by rw [List.length_append]; omega⟩
          have := (dT (dys.ex e5)).append (dT (dts_tupF (ks := xs.map fun x => k ++ [x]) (fun r hr => by obtain ⟨x, hx, rfl⟩ := List.mem_map.mp hr; exact fun d hd => (List.mem_append.mp hd).elim (hkf d) fun z => by rw [List.mem_singleton.mp z]; exact hfl x hx) dzs))
          rw [← List.map_append] at this
          rw [List.take_add_one, hk, List.flatMap_append]
          have e1 : List.flatMap (fun k => xs.map fun x => k ++ [x]) (some k).toList = xs.map fun x => k ++ [x] := by
            show List.flatMap _ [k] = _
            rw [List.flatMap_cons, List.flatMap_nil, List.append_nil]
          rw [e1]
          exact this
      · rintro σ' H4 ⟨e4, hr4, dr4, u5', ys, rfl, hl4, dys, hys⟩
        rw [hlen, List.take_length] at dys
        exact s_asg (ev_var (i := 4) rfl) fun H5 e5 => ⟨e4.trans e5, l, ys, _, _, _, rfl, hlH, e5 _ _ hl4, dys.ex e5⟩
    · rintro σ' H2 ⟨e2, r, refs, u3, u4, u5, rfl, hrH, hr2, dr⟩
      rw [Int.toNat_natCast] at dr
      exact ⟨_, rfl, q r refs H2 hrH e2 hr2 dr⟩
end
end TH
set_option maxRecDepth 100000
set_option maxHeartbeats 4000000
namespace TH
/-! ### least readers: there is just one of a set -/
/-- a tree with a hole -/
inductive Ctx where
  | hole
  | k1 (s : Nat) (c : Ctx)
  | l (s : Nat) (c : Ctx) (u : Tr)
  | r (s : Nat) (t : Tr) (c : Ctx)
def Ctx.plug : Ctx → Tr → Tr
  | .hole, x => x
  | .k1 s c, x => .n1 s (c.plug x)
  | .l s c u, x => .n2 s (c.plug x) u
  | .r s t c, x => .n2 s t (c.plug x)
def Ctx.Ok (S : List Sg) : Ctx → Prop
  | .hole => True
  | .k1 s c => s < S.length ∧ ks S s = 1 ∧ c.Ok S
  | .l s c u => s < S.length ∧ ks S s = 2 ∧ c.Ok S ∧ OkT S u
  | .r s t c => s < S.length ∧ ks S s = 2 ∧ OkT S t ∧ c.Ok S
def Ctx.mood (R : Pl) : Ctx → Nat → Nat
  | .hole, m => m
  | .k1 s c, m => ledN R s [c.mood R m]
  | .l s c u, m => ledN R s [c.mood R m, moodT R u]
  | .r s t c, m => ledN R s [moodT R t, c.mood R m]
theorem Ctx.plug_ok {S : List Sg} : ∀ {c : Ctx} {x : Tr}, c.Ok S → OkT S x → OkT S (c.plug x)
  | .hole, x, _, h => h
  | .k1 s c, x, hc, h => ⟨hc.1, hc.2.1, plug_ok hc.2.2 h⟩
  | .l s c u, x, hc, h => ⟨hc.1, hc.2.1, plug_ok hc.2.2.1 h, hc.2.2.2⟩
  | .r s t c, x, hc, h => ⟨hc.1, hc.2.1, hc.2.2.1, plug_ok hc.2.2.2 h⟩
theorem Ctx.plug_mood (R : Pl) : ∀ (c : Ctx) (x : Tr), moodT R (c.plug x) = c.mood R (moodT R x)
  | .hole, x => rfl
  | .k1 s c, x => by
    show ledN R s [moodT R (c.plug x)] = ledN R s [c.mood R (moodT R x)]
    rw [plug_mood R c x]
  | .l s c u, x => by
    show ledN R s [moodT R (c.plug x), moodT R u] = ledN R s [c.mood R (moodT R x), moodT R u]
    rw [plug_mood R c x]
  | .r s t c, x => by
    show ledN R s [moodT R t, moodT R (c.plug x)] = ledN R s [moodT R t, c.mood R (moodT R x)]
    rw [plug_mood R c x]
def Likes (R : Pl) (t : Tr) : Prop := moodT R t ∈ R.liked
def SameSet (S : List Sg) (A B : Pl) : Prop := ∀ t, OkT S t → (Likes A t ↔ Likes B t)
def Met (S : List Sg) (R : Pl) (m : Nat) : Prop := ∃ t, OkT S t ∧ moodT R t = m
/-- some tree around them is liked of the one and not of the other -/
def Parted (S : List Sg) (R : Pl) (m n : Nat) : Prop := ∃ c : Ctx, c.Ok S ∧ ¬ (c.mood R m ∈ R.liked ↔ c.mood R n ∈ R.liked)
/-- a sign with moods for its kids -/
def Choice (S : List Sg) (i s : Nat) (k : List Nat) : Prop := s < S.length ∧ k.length = ks S s ∧ ∀ x ∈ k, x < i
def lexN : List Nat → List Nat → Prop
  | [], [] => False
  | [], _ :: _ => True
  | _ :: _, [] => False
  | x :: xs, y :: ys => x < y ∨ x = y ∧ lexN xs ys
def FirstC (s : Nat) (k : List Nat) (s' : Nat) (k' : List Nat) : Prop := s < s' ∨ s = s' ∧ lexN k k'
theorem lexN_tri : ∀ (k k' : List Nat), k.length = k'.length → lexN k k' ∨ k = k' ∨ lexN k' k
  | [], [], _ => .inr (.inl rfl)
  | [], _ :: _, h => by cases h
  | _ :: _, [], h => by cases h
  | x :: xs, y :: ys, h => by
    rcases Nat.lt_trichotomy x y with h1 | h1 | h1
    · exact .inl (.inl h1)
    · rcases lexN_tri xs ys (Nat.succ.inj h) with h2 | h2 | h2
      · exact .inl (.inr ⟨h1, h2⟩)
      · exact .inr (.inl (by rw [h1, h2]))
      · exact .inr (.inr (.inr ⟨h1.symm, h2⟩))
    · exact .inr (.inr (.inl h1))
theorem firstC_tri {S : List Sg} {i s s' : Nat} {k k' : List Nat} (h : Choice S i s k) (h' : Choice S i s' k') : FirstC s k s' k' ∨ (s = s' ∧ k = k') ∨ FirstC s' k' s k := by
  rcases Nat.lt_trichotomy s s' with h1 | h1 | h1
  · exact .inl (.inl h1)
  · subst h1
    rcases lexN_tri k k' (by rw [h.2.1, h'.2.1]) with h2 | h2 | h2
    · exact .inl (.inr ⟨rfl, h2⟩)
    · exact .inr (.inl ⟨rfl, h2⟩)
    · exact .inr (.inr (.inr ⟨rfl, h2⟩))
  · exact .inr (.inr (.inl h1))
/-- a least reader, its moods numbered as the document says -/
structure Canon (S : List Sg) (R : Pl) : Prop where
  wf : Wf S R
  met : ∀ m, m < R.moods → Met S R m
  part : ∀ m n, m < R.moods → n < R.moods → m ≠ n → Parted S R m n
  num : ∀ i, i < R.moods → ∃ s k, Choice S i s k ∧ ledN R s k = i ∧ ∀ s' k', Choice S i s' k' → FirstC s' k' s k → ledN R s' k' < i
/-- which trees lead to one mood hangs on the set alone -/
theorem mood_iff {S : List Sg} {A B : Pl} (hA : Wf S A) (hB : Canon S B) (hs : SameSet S A B) {t u : Tr} (ht : OkT S t) (hu : OkT S u) (h : moodT A t = moodT A u) : moodT B t = moodT B u := by
  by_cases e : moodT B t = moodT B u
  · exact e
  · obtain ⟨c, hc, hp⟩ := hB.part _ _ (hB.wf.mood t ht) (hB.wf.mood u hu) e
    exact absurd (by
      rw [← Ctx.plug_mood, ← Ctx.plug_mood]
      have h1 := hs _ (Ctx.plug_ok hc ht)
      have h2 := hs _ (Ctx.plug_ok hc hu)
      have h3 : moodT A (c.plug t) = moodT A (c.plug u) := by rw [Ctx.plug_mood, Ctx.plug_mood, h]
      unfold Likes at h1 h2
      rw [h3] at h1
      exact h1.symm.trans h2) hp
theorem trees_of {S : List Sg} {R : Pl} (h : ∀ m, m < R.moods → Met S R m) : ∀ k : List Nat, (∀ x ∈ k, x < R.moods) → ∃ ts : List Tr, ts.map (moodT R) = k ∧ ∀ t ∈ ts, OkT S t
  | [], _ => ⟨[], rfl, fun t h => nomatch h⟩
  | x :: k, hk => by
    obtain ⟨ts, h1, h2⟩ := trees_of h k fun y hy => hk y (List.mem_cons_of_mem _ hy)
    obtain ⟨t, ht, e⟩ := h x (hk x List.mem_cons_self)
    refine ⟨t :: ts, by rw [List.map_cons, h1, e], fun u hu => ?_⟩
    rcases List.mem_cons.mp hu with rfl | hu
    · exact ht
    · exact h2 u hu
/-- the tree of a sign with these kids -/
def mkT (s : Nat) : List Tr → Tr
  | [] => .n0 s
  | [t] => .n1 s t
  | t :: u :: _ => .n2 s t u
theorem mkT_ok {S : List Sg} {s : Nat} {ts : List Tr} (hk : ks S s ≤ 2) (hs : s < S.length) (hl : ts.length = ks S s) (ho : ∀ t ∈ ts, OkT S t) : OkT S (mkT s ts) ∧ ∀ R : Pl, moodT R (mkT s ts) = ledN R s (ts.map (moodT R)) := by
  match ts, hl, ho with
  | [], hl, _ => exact ⟨⟨hs, hl.symm⟩, fun R => rfl⟩
  | [t], hl, ho => exact ⟨⟨hs, hl.symm, ho t List.mem_cons_self⟩, fun R => rfl⟩
  | [t, u], hl, ho => exact ⟨⟨hs, hl.symm, ho t List.mem_cons_self, ho u (List.mem_cons_of_mem _ List.mem_cons_self)⟩, fun R => rfl⟩
  | t :: u :: x :: r, hl, _ =>
    have : r.length + 3 = ks S s := hl
    omega
/-- a way from the moods of the one to the other's -/
theorem map_of {S : List Sg} {A B : Pl} (hA : Canon S A) (hB : Canon S B) (hs : SameSet S A B) : ∃ f : Nat → Nat, ∀ t, OkT S t → f (moodT A t) = moodT B t := by
  refine ⟨fun m => open Classical in if h : Met S A m then moodT B h.choose else 0, fun t ht => ?_⟩
  have h : Met S A (moodT A t) := ⟨t, ht, rfl⟩
  show (open Classical in if h : Met S A (moodT A t) then moodT B h.choose else 0) = _
  rw [dif_pos h]
  obtain ⟨h1, h2⟩ := h.choose_spec
  exact mood_iff hA.wf hB hs h1 ht h2
theorem sortedOne : ∀ {xs ys : List Nat}, xs.Pairwise (· < ·) → ys.Pairwise (· < ·) → (∀ a, a ∈ xs ↔ a ∈ ys) → xs = ys
  | [], [], _, _, _ => rfl
  | [], y :: ys, _, _, h => absurd ((h y).mpr List.mem_cons_self) (by simp)
  | x :: xs, [], _, _, h => absurd ((h x).mp List.mem_cons_self) (by simp)
  | x :: xs, y :: ys, h1, h2, h => by
    obtain ⟨a1, a2⟩ := List.pairwise_cons.mp h1
    obtain ⟨b1, b2⟩ := List.pairwise_cons.mp h2
    have e : x = y := by
      rcases List.mem_cons.mp ((h x).mp List.mem_cons_self) with e | hx
      · exact e
      · rcases List.mem_cons.mp ((h y).mpr List.mem_cons_self) with e | hy
        · exact e.symm
        · have h3 := b1 x hx
          have h4 := a1 y hy
          omega
    subst e
    rw [sortedOne a2 b2 fun a => ⟨fun ha => ?_, fun ha => ?_⟩]
    · rcases List.mem_cons.mp ((h a).mp (List.mem_cons_of_mem _ ha)) with e | hy
      · have := a1 a ha
        omega
      · exact hy
    · rcases List.mem_cons.mp ((h a).mpr (List.mem_cons_of_mem _ ha)) with e | hy
      · have := b1 a ha
        omega
      · exact hy
theorem spot_surj {m n j : Nat} (hn : n ≤ 2) (hj : j < m ^ n) : ∃ k : List Nat, k.length = n ∧ (∀ x ∈ k, x < m) ∧ spotN m k = j := by
  have : n = 0 ∨ n = 1 ∨ n = 2 := by omega
  rcases this with rfl | rfl | rfl
  · rw [Nat.pow_zero] at hj
    exact ⟨[], rfl, fun x h => (nomatch h), by show 0 = j; omega⟩
  · rw [Nat.pow_one] at hj
    exact ⟨[j], rfl, fun x h => by rw [List.mem_singleton.mp h]; exact hj, by show 0 * m + j = j; omega⟩
  · rw [Nat.pow_two] at hj
    have hm : 0 < m := by
      by_cases h : m = 0
      · rw [h] at hj
        omega
      · omega
    refine ⟨[j / m, j % m], rfl, fun x h => ?_, ?_⟩
    · rcases List.mem_cons.mp h with rfl | h
      · exact Nat.div_lt_of_lt_mul hj
      · rw [List.mem_singleton.mp h]
        exact Nat.mod_lt _ hm
    · show (0 * m + j / m) * m + j % m = j
      rw [Nat.zero_mul, Nat.zero_add, Nat.mul_comm]
      exact Nat.div_add_mod j m
/-- two readers with the same moods, tables, liked moods -/
theorem pl_ext {S : List Sg} (hK : KidsOk S) {A B : Pl} (hA : Wf S A) (hB : Wf S B) (hm : A.moods = B.moods) (led : ∀ s k, Choice S A.moods s k → ledN A s k = ledN B s k) (lik : ∀ m, m ∈ A.liked ↔ m ∈ B.liked) : A = B := by
  have h1 : A.liked = B.liked := sortedOne hA.lik hB.lik lik
  have h2 : A.tables = B.tables := by
    refine List.ext_getElem? fun s => ?_
    by_cases hs : s < S.length
    · have hsA : s < A.tables.length := by rw [hA.len]; exact hs
      have hsB : s < B.tables.length := by rw [hB.len]; exact hs
      have tA : A.tables[s]? = some (A.tables[s]'hsA) := List.getElem?_eq_getElem _
      have tB : B.tables[s]? = some (B.tables[s]'hsB) := List.getElem?_eq_getElem _
      obtain ⟨lA, _⟩ := hA.tab s _ tA
      obtain ⟨lB, _⟩ := hB.tab s _ tB
      rw [tA, tB]
      congr 1
      refine List.ext_getElem? fun j => ?_
      by_cases hj : j < A.moods ^ ks S s
      · obtain ⟨k, k1, k2, k3⟩ := spot_surj (ks_le hK s) hj
        have hc : Choice S A.moods s k := ⟨hs, k1, k2⟩
        obtain ⟨tb, x1, x2, _⟩ := hA.led hc.1 hc.2.1 hc.2.2
        obtain ⟨tb', y1, y2, _⟩ := hB.led (k := k) hc.1 hc.2.1 (by rw [← hm]; exact hc.2.2)
        rw [tA] at x1
        cases x1
        rw [tB] at y1
        cases y1
        rw [k3] at x2
        rw [← hm, k3] at y2
        rw [x2, y2, led s k hc]
      · rw [List.getElem?_eq_none (by omega), List.getElem?_eq_none (by rw [lB, ← hm]; omega)]
    · rw [List.getElem?_eq_none (by rw [hA.len]; omega), List.getElem?_eq_none (by rw [hB.len]; omega)]
  cases A
  cases B
  cases hm
  cases h1
  cases h2
  rfl
theorem canon_one {S : List Sg} (hK : KidsOk S) {A B : Pl} (hA : Canon S A) (hB : Canon S B) (hs : SameSet S A B) : A = B := by
  have hs' : SameSet S B A := fun t ht => (hs t ht).symm
  obtain ⟨f, hf⟩ := map_of hA hB hs
  obtain ⟨g, hg⟩ := map_of hB hA hs'
  have gf : ∀ m, m < A.moods → g (f m) = m := fun m hm => by
    obtain ⟨t, ht, e⟩ := hA.met m hm
    rw [← e, hf t ht, hg t ht]
  have fg : ∀ m, m < B.moods → f (g m) = m := fun m hm => by
    obtain ⟨t, ht, e⟩ := hB.met m hm
    rw [← e, hg t ht, hf t ht]
  have fB : ∀ m, m < A.moods → f m < B.moods := fun m hm => by
    obtain ⟨t, ht, e⟩ := hA.met m hm
    rw [← e, hf t ht]
    exact hB.wf.mood t ht
  have gA : ∀ m, m < B.moods → g m < A.moods := fun m hm => by
    obtain ⟨t, ht, e⟩ := hB.met m hm
    rw [← e, hg t ht]
    exact hA.wf.mood t ht
  have led : ∀ s k, Choice S A.moods s k → f (ledN A s k) = ledN B s (k.map f) := fun s k hc => by
    obtain ⟨ts, h1, h2⟩ := trees_of hA.met k hc.2.2
    have hl : ts.length = ks S s := by
      rw [← hc.2.1, ← h1, List.length_map]
    obtain ⟨h3, h4⟩ := mkT_ok (ks_le hK s) hc.1 hl h2
    rw [← h1, ← h4 A, hf _ h3, h4 B]
    congr 1
    rw [List.map_map]
    exact List.map_congr_left fun t ht => (hf t (h2 t ht)).symm
  -- the numbers are the same
  have key : ∀ i, i < A.moods → f i = i := by
    intro i
    induction i using Nat.strongRecOn with
    | _ i ih =>
      intro hi
      have idk : ∀ {s k}, Choice S i s k → k.map f = k := fun {s k} hc => by
        have : ∀ l : List Nat, (∀ x ∈ l, x < i) → l.map f = l := by
          intro l
          induction l with
          | nil => intro _; rfl
          | cons x l ihl =>
            intro hl
            have hx := hl x List.mem_cons_self
            rw [List.map_cons, ih x hx (by omega), ihl fun y hy => hl y (List.mem_cons_of_mem _ hy)]
        exact this k hc.2.2
      have up : ∀ {s k}, Choice S i s k → Choice S A.moods s k := fun hc => ⟨hc.1, hc.2.1, fun x hx => by have := hc.2.2 x hx; omega⟩
      have ledf : ∀ {s k}, Choice S i s k → f (ledN A s k) = ledN B s k := fun {s k} hc => by rw [led s k (up hc), idk hc]
      have ledA : ∀ {s k}, Choice S i s k → ledN A s k < A.moods := fun {s k} hc => by
        obtain ⟨_, _, _, h⟩ := hA.wf.led (up hc).1 (up hc).2.1 (up hc).2.2
        exact h
      -- below i the way is the same
      have lt_iff : ∀ m, m < A.moods → (m < i ↔ f m < i) := fun m hm => by
        constructor
        · intro h
          rw [ih m h hm]
          exact h
        · intro h
          by_cases hmi : m < i
          · exact hmi
          · have h1 : f (f m) = f m := ih (f m) h (by omega)
            have h2 := gf m hm
            have h3 := gf (f m) (by omega)
            rw [h1] at h3
            omega
      have hiB : i < B.moods := by
        by_cases h : i < B.moods
        · exact h
        · have h1 := fB i hi
          have h2 : f (f i) = f i := ih (f i) (by omega) (by omega)
          have h3 := gf i hi
          have h4 := gf (f i) (by omega)
          rw [h2] at h4
          omega
      obtain ⟨s, k, a1, a2, a3⟩ := hA.num i hi
      obtain ⟨s', k', b1, b2, b3⟩ := hB.num i hiB
      rcases firstC_tri a1 b1 with h | ⟨h1, h2⟩ | h
      · have h4 := b3 s k a1 h
        rw [← ledf a1, a2] at h4
        have := (lt_iff i hi).mpr h4
        omega
      · subst h1 h2
        rw [← a2, ledf a1, b2, a2]
      · have h4 := a3 s' k' b1 h
        have h5 := (lt_iff _ (ledA b1)).mp h4
        rw [ledf b1, b2] at h5
        omega
  have hm : A.moods = B.moods := by
    have h1 : A.moods ≤ B.moods := by
      by_cases h : A.moods ≤ B.moods
      · exact h
      · have hb : B.moods < A.moods := by omega
        have h1 := fB _ hb
        rw [key _ hb] at h1
        omega
    have h2 : B.moods ≤ A.moods := by
      by_cases h : B.moods ≤ A.moods
      · exact h
      · have hb : A.moods < B.moods := by omega
        have h3 := gA _ hb
        have h4 := fg _ hb
        rw [key _ h3] at h4
        omega
    omega
  have moods : ∀ t, OkT S t → moodT A t = moodT B t := fun t ht => by
    have := hf t ht
    rw [key _ (hA.wf.mood t ht)] at this
    exact this
  have ledAB : ∀ s k, Choice S A.moods s k → ledN A s k = ledN B s k := fun s k hc => by
    have h := led s k hc
    obtain ⟨_, _, _, hl⟩ := hA.wf.led hc.1 hc.2.1 hc.2.2
    rw [key _ hl] at h
    rw [h]
    congr 1
    have : ∀ l : List Nat, (∀ x ∈ l, x < A.moods) → l.map f = l := by
      intro l
      induction l with
      | nil => intro _; rfl
      | cons x l ihl =>
        intro hl
        rw [List.map_cons, key x (hl x List.mem_cons_self), ihl fun y hy => hl y (List.mem_cons_of_mem _ hy)]
    exact this k hc.2.2
  refine pl_ext hK hA.wf hB.wf hm ledAB fun m => ⟨fun h => ?_, fun h => ?_⟩
  · obtain ⟨t, ht, e⟩ := hA.met m (hA.wf.likm m h)
    have h1 : Likes A t := by
      show moodT A t ∈ A.liked
      rw [e]
      exact h
    have h2 : moodT B t ∈ B.liked := (hs t ht).mp h1
    rw [← moods t ht, e] at h2
    exact h2
  · obtain ⟨t, ht, e⟩ := hB.met m (hB.wf.likm m h)
    have h1 : Likes B t := by
      show moodT B t ∈ B.liked
      rw [e]
      exact h
    have h2 : moodT A t ∈ A.liked := (hs t ht).mpr h1
    rw [moods t ht, e] at h2
    exact h2
end TH
set_option maxRecDepth 100000
set_option maxHeartbeats 4000000
namespace TH
/-! ### all choices of moods, in order -/
def chs (xs : List Nat) : Nat → List (List Nat)
  | 0 => [[]]
  | n + 1 => (chs xs n).flatMap fun r => xs.map fun x => r ++ [x]
theorem mem_chs {xs : List Nat} : ∀ {n : Nat} {k : List Nat}, k ∈ chs xs n ↔ k.length = n ∧ ∀ x ∈ k, x ∈ xs
  | 0, k => by
    constructor
    · intro h
      rw [List.mem_singleton.mp h]
      exact ⟨rfl, fun x h => nomatch h⟩
    · rintro ⟨h, _⟩
      rw [List.length_eq_zero_iff.mp h]
      exact List.mem_singleton.mpr rfl
  | n + 1, k => by
    constructor
    · intro h
      obtain ⟨r, hr, h⟩ := List.mem_flatMap.mp h
      obtain ⟨x, hx, rfl⟩ := List.mem_map.mp h
      obtain ⟨h1, h2⟩ := mem_chs.mp hr
      refine ⟨by rw [List.length_append, h1]; rfl, fun y hy => ?_⟩
      rcases List.mem_append.mp hy with hy | hy
      · exact h2 y hy
      · rw [List.mem_singleton.mp hy]
        exact hx
    · rintro ⟨h, hx⟩
      have hne : k ≠ [] := fun z => by
        rw [z] at h
        cases h
      have e := List.dropLast_concat_getLast hne
      rw [← e]
      refine List.mem_flatMap.mpr ⟨k.dropLast, mem_chs.mpr ⟨by rw [List.length_dropLast, h]; rfl, fun y hy => hx y ((List.dropLast_sublist k).subset hy)⟩, List.mem_map.mpr ⟨k.getLast hne, hx _ (List.getLast_mem hne), rfl⟩⟩
theorem chs_map (f : Nat → Nat) (xs : List Nat) : ∀ n, chs (xs.map f) n = (chs xs n).map (List.map f)
  | 0 => rfl
  | n + 1 => by
    rw [chs, chs, chs_map f xs n, List.flatMap_map, List.map_flatMap]
    congr 1
    funext r
    rw [List.map_map, List.map_map]
    refine List.map_congr_left fun x _ => ?_
    show r.map f ++ [f x] = (r ++ [x]).map f
    rw [List.map_append]
    rfl
theorem flat_at {α β : Type} {m : Nat} {f : α → List β} (hf : ∀ a, (f a).length = m) : ∀ {l : List α} {q x : Nat} {a : α}, l[q]? = some a → x < m → (l.flatMap f)[q * m + x]? = (f a)[x]?
  | b :: l, 0, x, a, h, hx => by
    cases h
    rw [List.flatMap_cons, Nat.zero_mul, Nat.zero_add, List.getElem?_append_left (by rw [hf]; exact hx)]
  | b :: l, q + 1, x, a, h, hx => by
    have h : l[q]? = some a := h
    rw [List.flatMap_cons, List.getElem?_append_right (by rw [hf, Nat.succ_mul]; omega), hf, show (q + 1) * m + x - m = q * m + x by rw [Nat.succ_mul]; omega]
    exact flat_at hf h hx
theorem spotN_snoc (m : Nat) (r : List Nat) (x : Nat) : spotN m (r ++ [x]) = spotN m r * m + x := by
  unfold spotN
  rw [List.foldl_append]
  rfl
theorem chs_at {i : Nat} : ∀ {n : Nat} {k : List Nat}, k.length = n → (∀ x ∈ k, x < i) → (chs (List.range i) n)[spotN i k]? = some k
  | 0, k, h, _ => by
    rw [List.length_eq_zero_iff.mp h]
    rfl
  | n + 1, k, h, hx => by
    have hne : k ≠ [] := fun z => by
      rw [z] at h
      cases h
    have e := List.dropLast_concat_getLast hne
    have hl := hx _ (List.getLast_mem hne)
    generalize k.getLast hne = y at e hl
    have hr : k.dropLast.length = n := by rw [List.length_dropLast, h]; rfl
    have hd : ∀ x ∈ k.dropLast, x < i := fun x h => hx x ((List.dropLast_sublist k).subset h)
    generalize k.dropLast = r at e hr hd
    subst e
    rw [spotN_snoc, chs, flat_at (fun a => by rw [List.length_map, List.length_range]) (chs_at hr hd) hl, List.getElem?_map, List.getElem?_range hl]
    rfl
theorem chs_len (xs : List Nat) : ∀ n, (chs xs n).length = xs.length ^ n
  | 0 => rfl
  | n + 1 => by
    have key : ∀ l : List (List Nat), (l.flatMap fun r => xs.map fun x => r ++ [x]).length = l.length * xs.length := by
      intro l
      induction l with
      | nil => rw [List.flatMap_nil, List.length_nil, Nat.zero_mul]
      | cons a l ih => rw [List.flatMap_cons, List.length_append, ih, List.length_map, List.length_cons, Nat.succ_mul, Nat.add_comm]
    rw [chs, key, chs_len xs n, Nat.pow_succ]
/-! ### what nothing parts -/
def Ctx.comp : Ctx → Ctx → Ctx
  | .hole, d => d
  | .k1 s c, d => .k1 s (c.comp d)
  | .l s c u, d => .l s (c.comp d) u
  | .r s t c, d => .r s t (c.comp d)
theorem Ctx.comp_ok {S : List Sg} : ∀ {c d : Ctx}, c.Ok S → d.Ok S → (c.comp d).Ok S
  | .hole, d, _, h => h
  | .k1 s c, d, hc, h => ⟨hc.1, hc.2.1, comp_ok hc.2.2 h⟩
  | .l s c u, d, hc, h => ⟨hc.1, hc.2.1, comp_ok hc.2.2.1 h, hc.2.2.2⟩
  | .r s t c, d, hc, h => ⟨hc.1, hc.2.1, hc.2.2.1, comp_ok hc.2.2.2 h⟩
theorem Ctx.comp_mood (R : Pl) : ∀ (c d : Ctx) (m : Nat), (c.comp d).mood R m = c.mood R (d.mood R m)
  | .hole, d, m => rfl
  | .k1 s c, d, m => by
    show ledN R s [(c.comp d).mood R m] = _
    rw [comp_mood R c d m]
    rfl
  | .l s c u, d, m => by
    show ledN R s [(c.comp d).mood R m, moodT R u] = _
    rw [comp_mood R c d m]
    rfl
  | .r s t c, d, m => by
    show ledN R s [moodT R t, (c.comp d).mood R m] = _
    rw [comp_mood R c d m]
    rfl
/-- the two are alike in whatever stands around them -/
def Alike (S : List Sg) (R : Pl) (m n : Nat) : Prop := ∀ c : Ctx, c.Ok S → (c.mood R m ∈ R.liked ↔ c.mood R n ∈ R.liked)
theorem not_parted {S : List Sg} {R : Pl} {m n : Nat} : ¬ Parted S R m n ↔ Alike S R m n := by
  constructor
  · intro h c hc
    exact Classical.byContradiction fun z => h ⟨c, hc, z⟩
  · rintro h ⟨c, hc, z⟩
    exact z (h c hc)
theorem Alike.around {S : List Sg} {R : Pl} {m n : Nat} (h : Alike S R m n) {d : Ctx} (hd : d.Ok S) : Alike S R (d.mood R m) (d.mood R n) := fun c hc => by
  have := h (c.comp d) (Ctx.comp_ok hc hd)
  rw [Ctx.comp_mood, Ctx.comp_mood] at this
  exact this
theorem Alike.trans {S : List Sg} {R : Pl} {m n o : Nat} (h : Alike S R m n) (k : Alike S R n o) : Alike S R m o := fun c hc => (h c hc).trans (k c hc)
theorem Alike.symm {S : List Sg} {R : Pl} {m n : Nat} (h : Alike S R m n) : Alike S R n m := fun c hc => (h c hc).symm
theorem Alike.refl {S : List Sg} {R : Pl} (m : Nat) : Alike S R m m := fun c hc => Iff.rfl
/-- alike kids, alike trees -/
theorem Alike.led {S : List Sg} (hK : KidsOk S) {R : Pl} {s : Nat} {k k' : List Nat} (hs : s < S.length) (hl : k.length = ks S s) (hl' : k'.length = ks S s) (hm : ∀ x ∈ k, Met S R x) (hm' : ∀ x ∈ k', Met S R x) (h : ∀ (j x y : Nat), k[j]? = some x → k'[j]? = some y → Alike S R x y) : Alike S R (ledN R s k) (ledN R s k') := by
  have h2 := ks_le hK s
  match k, k', hl, hl', hm, hm', h with
  | [], [], _, _, _, _, _ => exact .refl _
  | [x], [y], hl, _, _, _, h => exact (h 0 x y rfl rfl).around (d := .k1 s .hole) ⟨hs, hl.symm, trivial⟩
  | [x, x2], [y, y2], hl, _, hm, hm', h =>
    obtain ⟨t, ht, e⟩ := hm x2 (List.mem_cons_of_mem _ List.mem_cons_self)
    obtain ⟨u, hu, e'⟩ := hm' y List.mem_cons_self
    have a := (h 0 x y rfl rfl).around (d := .l s .hole t) ⟨hs, hl.symm, trivial, ht⟩
    have b := (h 1 x2 y2 rfl rfl).around (d := .r s u .hole) ⟨hs, hl.symm, hu, trivial⟩
    have a : Alike S R (ledN R s [x, moodT R t]) (ledN R s [y, moodT R t]) := a
    have b : Alike S R (ledN R s [moodT R u, x2]) (ledN R s [moodT R u, y2]) := b
    rw [e] at a
    rw [e'] at b
    exact a.trans b
  | _ :: _ :: _ :: _, _, hl, _, _, _, _ =>
    have hl : _ + 3 = ks S s := hl
    omega
  | [], _ :: _, hl, hl', _, _, _ =>
    rw [← hl] at hl'
    cases hl'
  | _ :: _, [], hl, hl', _, _, _ =>
    rw [← hl'] at hl
    cases hl
  | [_], _ :: _ :: _, hl, hl', _, _, _ =>
    rw [← hl] at hl'
    cases hl'
  | [_, _], [_], hl, hl', _, _, _ =>
    rw [← hl] at hl'
    cases hl'
  | [_, _], _ :: _ :: _ :: _, hl, hl', _, _, _ =>
    rw [← hl] at hl'
    cases hl'
theorem met_led {S : List Sg} (hK : KidsOk S) {R : Pl} {s : Nat} {k : List Nat} (hs : s < S.length) (hl : k.length = ks S s) (hm : ∀ x ∈ k, Met S R x) : Met S R (ledN R s k) := by
  have key : ∀ k : List Nat, (∀ x ∈ k, Met S R x) → ∃ ts : List Tr, ts.map (moodT R) = k ∧ ∀ t ∈ ts, OkT S t := by
    intro k
    induction k with
    | nil => exact fun _ => ⟨[], rfl, fun t h => nomatch h⟩
    | cons x k ih =>
      intro h
      obtain ⟨ts, h1, h2⟩ := ih fun y hy => h y (List.mem_cons_of_mem _ hy)
      obtain ⟨t, ht, e⟩ := h x List.mem_cons_self
      refine ⟨t :: ts, by rw [List.map_cons, h1, e], fun u hu => ?_⟩
      rcases List.mem_cons.mp hu with rfl | hu
      · exact ht
      · exact h2 u hu
  obtain ⟨ts, h1, h2⟩ := key k hm
  obtain ⟨h3, h4⟩ := mkT_ok (ks_le hK s) hs (by rw [← hl, ← h1, List.length_map]) h2
  exact ⟨_, h3, by rw [h4, h1]⟩
/-! ### picked one by one -/
def pget (P : List Nat) (i : Nat) : Nat := P.getD i 0
theorem pget_at {P : List Nat} {i x : Nat} (h : P[i]? = some x) : pget P i = x := by
  unfold pget
  rw [List.getD_eq_getElem?_getD, h]
  rfl
structure Picks (S : List Sg) (R : Pl) (K : Nat → Nat) (P : List Nat) : Prop where
  step : ∀ (i x : Nat), P[i]? = some x → ∃ s k, Choice S i s k ∧ x = ledN R s (k.map (pget P)) ∧ K x ∉ (P.take i).map K ∧ ∀ s' k', Choice S i s' k' → FirstC s' k' s k → K (ledN R s' (k'.map (pget P))) ∈ (P.take i).map K
  stop : ∀ s k, Choice S P.length s k → K (ledN R s (k.map (pget P))) ∈ P.map K
def numK (K : Nat → Nat) (P : List Nat) (m : Nat) : Nat := (P.map K).idxOf (K m)
def leastOf (S : List Sg) (R : Pl) (K : Nat → Nat) (P : List Nat) : Pl where
  moods := P.length
  tables := (List.range S.length).map fun s => (chs P (ks S s)).map fun k => numK K P (ledN R s k)
  liked := (List.range P.length).filter fun i => decide (pget P i ∈ R.liked)
section
variable {S : List Sg} {R : Pl} {K : Nat → Nat} {P : List Nat}
theorem Picks.met (hK : KidsOk S) (h : Picks S R K P) : ∀ (i x : Nat), P[i]? = some x → Met S R x := by
  intro i
  induction i using Nat.strongRecOn with
  | _ i ih =>
    intro x hx
    obtain ⟨s, k, hc, e, _, _⟩ := h.step i x hx
    rw [e]
    refine met_led hK hc.1 (by rw [List.length_map]; exact hc.2.1) fun y hy => ?_
    obtain ⟨j, hj, rfl⟩ := List.mem_map.mp hy
    have hji := hc.2.2 j hj
    have hlt : j < P.length := by
      have := (List.getElem?_eq_some_iff.mp hx).1
      omega
    have hp : P[j]? = some (P[j]'hlt) := List.getElem?_eq_getElem _
    rw [pget_at hp]
    exact ih j hji _ hp
theorem Picks.nodup (h : Picks S R K P) : (P.map K).Nodup := by
  unfold List.Nodup
  rw [List.pairwise_map, List.pairwise_iff_getElem]
  intro i j hi hj hij e
  obtain ⟨_, _, _, _, hn, _⟩ := h.step j _ (List.getElem?_eq_getElem hj)
  refine hn (List.mem_map.mpr ⟨P[i], ?_, e⟩)
  exact List.mem_take_iff_getElem.mpr ⟨i, by omega, rfl⟩
theorem idx_at : ∀ {l : List Nat} {i a : Nat}, l.Nodup → l[i]? = some a → l.idxOf a = i
  | b :: l, 0, a, _, h => by
    cases h
    simp [List.idxOf_cons]
  | b :: l, i + 1, a, nd, h => by
    have h : l[i]? = some a := h
    obtain ⟨n1, n2⟩ := List.nodup_cons.mp nd
    have hne : b ≠ a := fun z => n1 (by rw [z]; exact List.mem_of_getElem? h)
    have hb : (b == a) = false := by simp [hne]
    rw [List.idxOf_cons, hb, idx_at n2 h]
    rfl
theorem num_at (h : (P.map K).Nodup) {i x : Nat} (hx : P[i]? = some x) : numK K P x = i := by
  exact idx_at h (by rw [List.getElem?_map, hx]; rfl)
theorem num_lt {m : Nat} (h : K m ∈ P.map K) : numK K P m < P.length := by
  have := List.idxOf_lt_length_of_mem h
  rw [List.length_map] at this
  exact this
theorem num_get {m : Nat} (h : K m ∈ P.map K) : K (pget P (numK K P m)) = K m := by
  have hl := num_lt h
  have hx : P[numK K P m]? = some (P[numK K P m]'hl) := List.getElem?_eq_getElem _
  rw [pget_at hx]
  have hl' : (P.map K).idxOf (K m) < (P.map K).length := List.idxOf_lt_length_of_mem h
  have e : (P.map K)[(P.map K).idxOf (K m)]'hl' = K m := List.getElem_idxOf hl'
  rw [List.getElem_map] at e
  exact e
theorem pget_range (P : List Nat) : P = (List.range P.length).map (pget P) := by
  refine List.ext_getElem? fun i => ?_
  rw [List.getElem?_map]
  by_cases h : i < P.length
  · rw [List.getElem?_range h, List.getElem?_eq_getElem h]
    show some _ = some (pget P i)
    rw [pget_at (List.getElem?_eq_getElem h)]
  · rw [List.getElem?_eq_none (by omega), List.getElem?_eq_none (by rw [List.length_range]; omega)]
    rfl
/-- where the least reader leads -/
theorem least_led {s : Nat} {k : List Nat} (hc : Choice S P.length s k) : ledN (leastOf S R K P) s k = numK K P (ledN R s (k.map (pget P))) := by
  have h1 : (leastOf S R K P).tables.getD s [] = (chs P (ks S s)).map fun k => numK K P (ledN R s k) := by
    show ((List.range S.length).map _).getD s [] = _
    rw [List.getD_eq_getElem?_getD, List.getElem?_map, List.getElem?_range hc.1]
    rfl
  unfold ledN
  rw [h1]
  have h2 : chs P (ks S s) = (chs (List.range P.length) (ks S s)).map (List.map (pget P)) := by
    rw [← chs_map, ← pget_range]
  rw [h2, List.map_map, List.getD_eq_getElem?_getD, List.getElem?_map]
  show (Option.map _ ((chs (List.range P.length) (ks S s))[spotN P.length k]?)).getD 0 = _
  rw [chs_at hc.2.1 hc.2.2]
  rfl
end
end TH
set_option maxRecDepth 100000
set_option maxHeartbeats 4000000
namespace TH
section
variable {S : List Sg} {R : Pl} {K : Nat → Nat} {P : List Nat}
/-- K tells just what nothing parts -/
def Kinds (S : List Sg) (R : Pl) (K : Nat → Nat) : Prop := ∀ m n, Met S R m → Met S R n → (K m = K n ↔ Alike S R m n)
def kidNums (R : Pl) (K : Nat → Nat) (P : List Nat) (t : Tr) : List Nat := t.kids.map fun k => numK K P (moodT R k)
theorem num_congr {m n : Nat} (h : K m = K n) : numK K P m = numK K P n := by
  unfold numK
  rw [h]
theorem kids_choice (hO : ∀ {t : Tr}, OkT S t → ∀ k ∈ t.kids, K (moodT R k) ∈ P.map K → True) {t : Tr} (ho : OkT S t) (h : ∀ k ∈ t.kids, K (moodT R k) ∈ P.map K) : Choice S P.length t.root (kidNums R K P t) := by
  refine ⟨ho.root, ?_, fun x hx => ?_⟩
  · unfold kidNums
    rw [List.length_map]
    exact ho.ark.symm
  · obtain ⟨k, hk, rfl⟩ := List.mem_map.mp hx
    exact num_lt (h k hk)
theorem kids_kind (hS : KidsOk S) (hk : Kinds S R K) (hp : Picks S R K P) {t : Tr} (ho : OkT S t) (h : ∀ k ∈ t.kids, K (moodT R k) ∈ P.map K) : K (ledN R t.root ((kidNums R K P t).map (pget P))) = K (moodT R t) := by
  have hc := kids_choice (K := K) (R := R) (fun _ _ _ _ => trivial) ho h
  have pm : ∀ x ∈ (kidNums R K P t).map (pget P), Met S R x := fun x hx => by
    obtain ⟨i, hi, rfl⟩ := List.mem_map.mp hx
    have hl := hc.2.2 i hi
    have e : P[i]? = some (P[i]'hl) := List.getElem?_eq_getElem _
    rw [pget_at e]
    exact hp.met hS i _ e
  have km : ∀ x ∈ t.kids.map (moodT R), Met S R x := fun x hx => by
    obtain ⟨k, hk, rfl⟩ := List.mem_map.mp hx
    exact ⟨k, ho.kids k hk, rfl⟩
  have l1 : ((kidNums R K P t).map (pget P)).length = ks S t.root := by rw [List.length_map]; exact hc.2.1
  have l2 : (t.kids.map (moodT R)).length = ks S t.root := by rw [List.length_map]; exact ho.ark.symm
  have al : Alike S R (ledN R t.root ((kidNums R K P t).map (pget P))) (ledN R t.root (t.kids.map (moodT R))) := by
    refine Alike.led hS ho.root l1 l2 pm km fun j x y hx hy => ?_
    unfold kidNums at hx
    rw [List.getElem?_map, List.getElem?_map] at hx
    rw [List.getElem?_map] at hy
    cases hj : t.kids[j]? with
    | none =>
      rw [hj] at hy
      cases hy
    | some k =>
      rw [hj] at hx hy
      cases hx
      cases hy
      have hkk := List.mem_of_getElem? hj
      have hin := h k hkk
      have hl := num_lt hin
      have e : P[numK K P (moodT R k)]? = some (P[numK K P (moodT R k)]'hl) := List.getElem?_eq_getElem _
      refine (hk _ _ ?_ ⟨k, ho.kids k hkk, rfl⟩).mp (num_get hin)
      rw [pget_at e]
      exact hp.met hS _ _ e
  rw [moodT_eq R t]
  refine (hk _ _ (met_led hS ho.root l1 pm) (met_led hS ho.root l2 km)).mpr al
theorem all_in (hS : KidsOk S) (hk : Kinds S R K) (hp : Picks S R K P) : ∀ t, OkT S t → K (moodT R t) ∈ P.map K := by
  refine Tr.ind fun t ih ho => ?_
  have h : ∀ k ∈ t.kids, K (moodT R k) ∈ P.map K := fun k hk' => ih k hk' (ho.kids k hk')
  have hc := kids_choice (K := K) (R := R) (fun _ _ _ _ => trivial) ho h
  rw [← kids_kind hS hk hp ho h]
  exact hp.stop _ _ hc
theorem least_mood (hS : KidsOk S) (hk : Kinds S R K) (hp : Picks S R K P) : ∀ t, OkT S t → moodT (leastOf S R K P) t = numK K P (moodT R t) := by
  refine Tr.ind fun t ih ho => ?_
  have h : ∀ k ∈ t.kids, K (moodT R k) ∈ P.map K := fun k hk' => all_in hS hk hp k (ho.kids k hk')
  have hc := kids_choice (K := K) (R := R) (fun _ _ _ _ => trivial) ho h
  have e : t.kids.map (moodT (leastOf S R K P)) = kidNums R K P t := List.map_congr_left fun k hk' => ih k hk' (ho.kids k hk')
  rw [moodT_eq (leastOf S R K P) t, e, least_led hc]
  exact num_congr (kids_kind hS hk hp ho h)
theorem least_liked (hS : KidsOk S) (hk : Kinds S R K) (hp : Picks S R K P) {m : Nat} (hm : Met S R m) : numK K P m ∈ (leastOf S R K P).liked ↔ m ∈ R.liked := by
  obtain ⟨t, ht, e⟩ := hm
  have hin := all_in hS hk hp t ht
  rw [e] at hin
  have hl := num_lt hin
  have hx : P[numK K P m]? = some (P[numK K P m]'hl) := List.getElem?_eq_getElem _
  have hmet : Met S R (pget P (numK K P m)) := by
    rw [pget_at hx]
    exact hp.met hS _ _ hx
  have al := (hk _ _ hmet ⟨t, ht, e⟩).mp (num_get hin) .hole trivial
  show numK K P m ∈ (List.range P.length).filter _ ↔ _
  rw [List.mem_filter, List.mem_range, decide_eq_true_eq]
  exact ⟨fun h => al.mp h.2, fun h => ⟨hl, al.mpr h⟩⟩
theorem least_same (hS : KidsOk S) (hk : Kinds S R K) (hp : Picks S R K P) : SameSet S R (leastOf S R K P) := fun t ht => by
  unfold Likes
  rw [least_mood hS hk hp t ht]
  exact (least_liked hS hk hp ⟨t, ht, rfl⟩).symm
theorem least_ctx (hS : KidsOk S) (hk : Kinds S R K) (hp : Picks S R K P) {c : Ctx} (hc : c.Ok S) {m : Nat} (hm : Met S R m) : c.mood (leastOf S R K P) (numK K P m) = numK K P (c.mood R m) := by
  obtain ⟨t, ht, e⟩ := hm
  have h1 := least_mood hS hk hp (c.plug t) (Ctx.plug_ok hc ht)
  rw [Ctx.plug_mood, Ctx.plug_mood, least_mood hS hk hp t ht, e] at h1
  exact h1
theorem met_ctx {c : Ctx} (hc : c.Ok S) {m : Nat} (hm : Met S R m) : Met S R (c.mood R m) := by
  obtain ⟨t, ht, e⟩ := hm
  exact ⟨c.plug t, Ctx.plug_ok hc ht, by rw [Ctx.plug_mood, e]⟩
theorem least_canon (hS : KidsOk S) (hp0 : 0 < P.length) (hk : Kinds S R K) (hp : Picks S R K P) : Canon S (leastOf S R K P) where
  wf := by
    have hin : ∀ s k, s < S.length → k ∈ chs P (ks S s) → numK K P (ledN R s k) < P.length := fun s k hs hmem => by
      obtain ⟨h1, h2⟩ := mem_chs.mp hmem
      have : Met S R (ledN R s k) := met_led hS hs h1 fun x hx => by
        obtain ⟨i, hi⟩ := List.mem_iff_getElem?.mp (h2 x hx)
        exact hp.met hS i x hi
      obtain ⟨t, ht, e⟩ := this
      rw [← e]
      exact num_lt (all_in hS hk hp t ht)
    refine ⟨hp0, by show ((List.range S.length).map _).length = _; rw [List.length_map, List.length_range], fun s tb h => ?_, ?_, fun m hm => ?_⟩
    · have h : ((List.range S.length).map fun s => (chs P (ks S s)).map fun k => numK K P (ledN R s k))[s]? = some tb := h
      rw [List.getElem?_map] at h
      by_cases hs : s < S.length
      · rw [List.getElem?_range hs] at h
        cases h
        refine ⟨by rw [List.length_map, chs_len]; rfl, fun m hm => ?_⟩
        obtain ⟨k, hk', rfl⟩ := List.mem_map.mp hm
        exact hin s k hs hk'
      · rw [List.getElem?_eq_none (by rw [List.length_range]; omega)] at h
        cases h
    · show ((List.range P.length).filter _).Pairwise _
      exact List.Pairwise.filter _ List.pairwise_lt_range
    · have hm : m ∈ (List.range P.length).filter _ := hm
      exact List.mem_range.mp (List.mem_filter.mp hm).1
  met := fun m hm => by
    have hm : m < P.length := hm
    have hx : P[m]? = some (P[m]'hm) := List.getElem?_eq_getElem _
    obtain ⟨t, ht, e⟩ := hp.met hS m _ hx
    refine ⟨t, ht, ?_⟩
    rw [least_mood hS hk hp t ht, e]
    exact num_at hp.nodup hx
  part := fun m n hm hn hne => by
    have hm : m < P.length := hm
    have hn : n < P.length := hn
    have hx : P[m]? = some (P[m]'hm) := List.getElem?_eq_getElem _
    have hy : P[n]? = some (P[n]'hn) := List.getElem?_eq_getElem _
    have mx := hp.met hS m _ hx
    have my := hp.met hS n _ hy
    have ex := num_at hp.nodup hx
    have ey := num_at hp.nodup hy
    generalize P[m]'hm = x at hx mx ex
    generalize P[n]'hn = y at hy my ey
    have hxy : ¬ K x = K y := fun z => by
      have := num_congr (P := P) z
      omega
    have hnp : Parted S R x y := Classical.byContradiction fun z => hxy ((hk x y mx my).mpr (not_parted.mp z))
    obtain ⟨c, hc, hq⟩ := hnp
    refine ⟨c, hc, fun z => hq ?_⟩
    rw [← ex, ← ey, least_ctx hS hk hp hc mx, least_ctx hS hk hp hc my] at z
    exact ((least_liked hS hk hp (met_ctx hc mx)).symm.trans z).trans (least_liked hS hk hp (met_ctx hc my))
  num := fun i hi => by
    have hi : i < P.length := hi
    have hx : P[i]? = some (P[i]'hi) := List.getElem?_eq_getElem _
    obtain ⟨s, k, hc, e, hn, hf⟩ := hp.step i _ hx
    have up : ∀ {s k}, Choice S i s k → Choice S P.length s k := fun h => ⟨h.1, h.2.1, fun x hx => by have := h.2.2 x hx; omega⟩
    refine ⟨s, k, hc, ?_, fun s' k' hc' hf' => ?_⟩
    · rw [least_led (up hc), ← e]
      exact num_at hp.nodup hx
    · rw [least_led (up hc')]
      have hm := hf s' k' hc' hf'
      obtain ⟨y, hy, ey⟩ := List.mem_map.mp hm
      obtain ⟨j, hj⟩ := List.mem_iff_getElem?.mp hy
      obtain ⟨hj1, _⟩ := List.getElem?_eq_some_iff.mp hj
      rw [List.length_take] at hj1
      rw [List.getElem?_take] at hj
      rw [if_pos (by omega)] at hj
      rw [← num_congr (P := P) ey, num_at hp.nodup hj]
      omega
end
end TH
set_option maxRecDepth 100000
set_option maxHeartbeats 4000000
namespace TH
/-! ### as many as there are unlike ones -/
theorem pigeon {α : Type} : ∀ {ys ws : List α}, ys.Nodup → (∀ a ∈ ys, a ∈ ws) → ys.length ≤ ws.length
  | [], ws, _, _ => Nat.zero_le _
  | y :: ys, ws, nd, h => by
    obtain ⟨n1, n2⟩ := List.nodup_cons.mp nd
    obtain ⟨w1, w2, e⟩ := List.append_of_mem (h y List.mem_cons_self)
    have := pigeon (ys := ys) (ws := w1 ++ w2) n2 fun a ha => by
      have ha' := h a (List.mem_cons_of_mem _ ha)
      rw [e] at ha'
      rcases List.mem_append.mp ha' with h1 | h1
      · exact List.mem_append_left _ h1
      · rcases List.mem_cons.mp h1 with h1 | h1
        · rw [h1] at ha
          exact absurd ha n1
        · exact List.mem_append_right _ h1
    rw [e, List.length_append, List.length_cons]
    rw [List.length_append] at this
    rw [List.length_cons]
    omega
theorem not_nodup {α : Type} : ∀ {ws : List α}, ¬ ws.Nodup → ∃ w1 a w2, ws = w1 ++ a :: w2 ∧ a ∈ w1 ++ w2
  | [], h => absurd List.nodup_nil h
  | w :: ws, h => by
    by_cases hw : w ∈ ws
    · exact ⟨[], w, ws, rfl, hw⟩
    · have h2 : ¬ ws.Nodup := fun z => h (List.nodup_cons.mpr ⟨hw, z⟩)
      obtain ⟨w1, a, w2, e, ha⟩ := not_nodup h2
      exact ⟨w :: w1, a, w2, by rw [e]; rfl, List.mem_cons_of_mem _ ha⟩
theorem full_nodup {α : Type} {ys ws : List α} (nd : ys.Nodup) (h : ∀ a ∈ ys, a ∈ ws) (hl : ws.length ≤ ys.length) : ws.Nodup := Classical.byContradiction fun z => by
  obtain ⟨w1, a, w2, e, ha⟩ := not_nodup z
  have := pigeon nd (ws := w1 ++ w2) fun b hb => by
    have hb' := h b hb
    rw [e] at hb'
    rcases List.mem_append.mp hb' with h1 | h1
    · exact List.mem_append_left _ h1
    · rcases List.mem_cons.mp h1 with h1 | h1
      · rw [h1]
        exact ha
      · exact List.mem_append_right _ h1
  rw [e, List.length_append, List.length_cons] at hl
  rw [List.length_append] at this
  omega
/-- a list of the unlike ones of another -/
structure SetOf' {α : Type} (xs ys : List α) : Prop where
  nd : ys.Nodup
  mem : ∀ a, a ∈ ys ↔ a ∈ xs
/-! ### kinds, made finer -/
section
variable {S : List Sg} {R : Pl} {K : Nat → Nat} {Ms : List Nat}
def markOf (S : List Sg) (R : Pl) (K : Nat → Nat) (Ms : List Nat) (m s : Nat) : List Nat :=
  (if ks S s = 1 then [K (ledN R s [m])] else []) ++ (if ks S s = 2 then (Ms.map fun o => K (ledN R s [m, o])) ++ (Ms.map fun o => K (ledN R s [o, m])) else [])
def mark (S : List Sg) (R : Pl) (K : Nat → Nat) (Ms : List Nat) (m : Nat) : List Nat := K m :: (List.range S.length).flatMap (markOf S R K Ms m)
/-- what is known of the kinds on the way -/
structure Fine (S : List Sg) (R : Pl) (Ms : List Nat) (K : Nat → Nat) : Prop where
  lik : ∀ m ∈ Ms, ∀ n ∈ Ms, K m = K n → (m ∈ R.liked ↔ n ∈ R.liked)
  part : ∀ m ∈ Ms, ∀ n ∈ Ms, Alike S R m n → K m = K n
theorem Fine.start (S : List Sg) (R : Pl) (Ms : List Nat) : Fine S R Ms fun m => if m ∈ R.liked then 1 else 0 where
  lik := fun m _ n _ h => by
    by_cases h1 : m ∈ R.liked
    · by_cases h2 : n ∈ R.liked
      · exact ⟨fun _ => h2, fun _ => h1⟩
      · simp [h1, h2] at h
    · by_cases h2 : n ∈ R.liked
      · simp [h1, h2] at h
      · exact ⟨fun z => absurd z h1, fun z => absurd z h2⟩
  part := fun m _ n _ h => by
    have := h .hole trivial
    have : m ∈ R.liked ↔ n ∈ R.liked := this
    simp [this]
theorem markOf_len (m n s : Nat) : (markOf S R K Ms m s).length = (markOf S R K Ms n s).length := by
  unfold markOf
  split <;> split <;> simp
theorem flat_eq {α : Type} {f g : Nat → List α} (h : ∀ s, (f s).length = (g s).length) : ∀ {l : List Nat}, l.flatMap f = l.flatMap g → ∀ s ∈ l, f s = g s
  | [], _, s, hs => nomatch hs
  | a :: l, e, s, hs => by
    rw [List.flatMap_cons, List.flatMap_cons] at e
    obtain ⟨e1, e2⟩ := List.append_inj e (h a)
    rcases List.mem_cons.mp hs with rfl | hs
    · exact e1
    · exact flat_eq h e2 s hs
theorem map_eqv {α : Type} {f g : Nat → α} : ∀ {l : List Nat}, l.map f = l.map g → ∀ o ∈ l, f o = g o
  | [], _, o, h => nomatch h
  | a :: l, e, o, h => by
    rw [List.map_cons, List.map_cons] at e
    injection e with e1 e2
    rcases List.mem_cons.mp h with rfl | h
    · exact e1
    · exact map_eqv e2 o h
/-- the marks are the same just if all they are made of is -/
theorem mark_eq {m n : Nat} (h : mark S R K Ms m = mark S R K Ms n) : K m = K n ∧ ∀ s, s < S.length → (ks S s = 1 → K (ledN R s [m]) = K (ledN R s [n])) ∧ (ks S s = 2 → ∀ o ∈ Ms, K (ledN R s [m, o]) = K (ledN R s [n, o]) ∧ K (ledN R s [o, m]) = K (ledN R s [o, n])) := by
  unfold mark at h
  injection h with h1 h2
  refine ⟨h1, fun s hs => ?_⟩
  have h3 := flat_eq (fun s => markOf_len m n s) h2 s (List.mem_range.mpr hs)
  unfold markOf at h3
  refine ⟨fun hk => ?_, fun hk o ho => ?_⟩
  · rw [if_pos hk, if_pos hk] at h3
    injection h3 with h4 _
  · have hk1 : ¬ ks S s = 1 := by omega
    rw [if_neg hk1, if_neg hk1, if_pos hk, if_pos hk, List.nil_append, List.nil_append] at h3
    obtain ⟨h4, h5⟩ := List.append_inj h3 (by rw [List.length_map, List.length_map])
    exact ⟨map_eqv h4 o ho, map_eqv h5 o ho⟩
theorem mark_of {m n : Nat} (h1 : K m = K n) (h : ∀ s, s < S.length → (ks S s = 1 → K (ledN R s [m]) = K (ledN R s [n])) ∧ (ks S s = 2 → ∀ o ∈ Ms, K (ledN R s [m, o]) = K (ledN R s [n, o]) ∧ K (ledN R s [o, m]) = K (ledN R s [o, n]))) : mark S R K Ms m = mark S R K Ms n := by
  unfold mark
  rw [h1]
  congr 1
  have key : ∀ l : List Nat, (∀ s ∈ l, s < S.length) → l.flatMap (markOf S R K Ms m) = l.flatMap (markOf S R K Ms n) := by
    intro l
    induction l with
    | nil => intro _; rfl
    | cons s l ih =>
      intro hl
      obtain ⟨a1, a2⟩ := h s (hl s List.mem_cons_self)
      rw [List.flatMap_cons, List.flatMap_cons, ih fun y hy => hl y (List.mem_cons_of_mem _ hy)]
      congr 1
      unfold markOf
      congr 1
      · by_cases hk : ks S s = 1
        · rw [if_pos hk, if_pos hk, a1 hk]
        · rw [if_neg hk, if_neg hk]
      · by_cases hk : ks S s = 2
        · rw [if_pos hk, if_pos hk]
          congr 1
          · exact List.map_congr_left fun o ho => (a2 hk o ho).1
          · exact List.map_congr_left fun o ho => (a2 hk o ho).2
        · rw [if_neg hk, if_neg hk]
  exact key _ fun s hs => List.mem_range.mp hs
theorem led_in (hS : KidsOk S) (hm : ∀ m, m ∈ Ms ↔ Met S R m) {s : Nat} {k : List Nat} (hs : s < S.length) (hl : k.length = ks S s) (hk : ∀ x ∈ k, x ∈ Ms) : ledN R s k ∈ Ms :=
  (hm _).mpr (met_led hS hs hl fun x hx => (hm x).mp (hk x hx))
/-- a step -/
theorem Fine.step (hS : KidsOk S) (hm : ∀ m, m ∈ Ms ↔ Met S R m) (h : Fine S R Ms K) {F : Nat → Nat} (hF : ∀ m ∈ Ms, ∀ n ∈ Ms, (F m = F n ↔ mark S R K Ms m = mark S R K Ms n)) : Fine S R Ms F where
  lik := fun m hm' n hn e => h.lik m hm' n hn (mark_eq ((hF m hm' n hn).mp e)).1
  part := fun m hm' n hn al => by
    refine (hF m hm' n hn).mpr (mark_of (h.part m hm' n hn al) fun s hs => ⟨fun hk => ?_, fun hk o ho => ⟨?_, ?_⟩⟩)
    · exact h.part _ (led_in (k := [m]) hS hm hs hk.symm fun x hx => by rw [List.mem_singleton.mp hx]; exact hm') _ (led_in (k := [n]) hS hm hs hk.symm fun x hx => by rw [List.mem_singleton.mp hx]; exact hn) (al.around (d := .k1 s .hole) ⟨hs, hk, trivial⟩)
    · obtain ⟨t, ht, e⟩ := (hm o).mp ho
      have := al.around (d := .l s .hole t) ⟨hs, hk, trivial, ht⟩
      have this : Alike S R (ledN R s [m, moodT R t]) (ledN R s [n, moodT R t]) := this
      rw [e] at this
      refine h.part _ (led_in (k := [m, o]) hS hm hs hk.symm fun x hx => ?_) _ (led_in (k := [n, o]) hS hm hs hk.symm fun x hx => ?_) this
      · rcases List.mem_cons.mp hx with rfl | hx
        · exact hm'
        · rw [List.mem_singleton.mp hx]
          exact ho
      · rcases List.mem_cons.mp hx with rfl | hx
        · exact hn
        · rw [List.mem_singleton.mp hx]
          exact ho
    · obtain ⟨t, ht, e⟩ := (hm o).mp ho
      have := al.around (d := .r s t .hole) ⟨hs, hk, ht, trivial⟩
      have this : Alike S R (ledN R s [moodT R t, m]) (ledN R s [moodT R t, n]) := this
      rw [e] at this
      refine h.part _ (led_in (k := [o, m]) hS hm hs hk.symm fun x hx => ?_) _ (led_in (k := [o, n]) hS hm hs hk.symm fun x hx => ?_) this
      · rcases List.mem_cons.mp hx with rfl | hx
        · exact ho
        · rw [List.mem_singleton.mp hx]
          exact hm'
      · rcases List.mem_cons.mp hx with rfl | hx
        · exact ho
        · rw [List.mem_singleton.mp hx]
          exact hn
/-- as many marks as kinds: nothing gets finer -/
theorem marks_stay {ys : List Nat} {zs : List (List Nat)} (hy : SetOf' (Ms.map K) ys) (hz : SetOf' (Ms.map (mark S R K Ms)) zs) : ys.length ≤ zs.length ∧ (zs.length = ys.length → ∀ m ∈ Ms, ∀ n ∈ Ms, K m = K n → mark S R K Ms m = mark S R K Ms n) := by
  have hw : ∀ a ∈ ys, a ∈ zs.map fun z => z.headD 0 := fun a ha => by
    obtain ⟨m, hm, e⟩ := List.mem_map.mp ((hy.mem a).mp ha)
    exact List.mem_map.mpr ⟨mark S R K Ms m, (hz.mem _).mpr (List.mem_map.mpr ⟨m, hm, rfl⟩), e⟩
  have hle := pigeon hy.nd hw
  rw [List.length_map] at hle
  refine ⟨hle, fun hl m hm n hn e => ?_⟩
  have nd := full_nodup hy.nd hw (by rw [List.length_map]; omega)
  have zm := (hz.mem _).mpr (List.mem_map.mpr ⟨m, hm, rfl⟩)
  have zn := (hz.mem _).mpr (List.mem_map.mpr ⟨n, hn, rfl⟩)
  have inj : ∀ {l : List (List Nat)}, (l.map fun z => z.headD 0).Nodup → ∀ a ∈ l, ∀ b ∈ l, a.headD 0 = b.headD 0 → a = b := by
    intro l
    induction l with
    | nil => intro _ a h; cases h
    | cons x l ih =>
      intro nd a ha b hb e
      rw [List.map_cons] at nd
      obtain ⟨n1, n2⟩ := List.nodup_cons.mp nd
      rcases List.mem_cons.mp ha with ea | ha
      · rcases List.mem_cons.mp hb with eb | hb
        · rw [ea, eb]
        · rw [ea] at e
          exact absurd (List.mem_map.mpr ⟨b, hb, e.symm⟩) n1
      · rcases List.mem_cons.mp hb with eb | hb
        · rw [eb] at e
          exact absurd (List.mem_map.mpr ⟨a, ha, e⟩) n1
        · exact ih n2 a ha b hb e
  exact inj nd _ zm _ zn e
/-- kinds that don't get finer tell just what nothing parts -/
theorem kinds_of (hS : KidsOk S) (hm : ∀ m, m ∈ Ms ↔ Met S R m) (h : Fine S R Ms K) (st : ∀ m ∈ Ms, ∀ n ∈ Ms, K m = K n → mark S R K Ms m = mark S R K Ms n) : Kinds S R K := by
  intro m n mm mn
  have hmM := (hm m).mpr mm
  have hnM := (hm n).mpr mn
  refine ⟨fun e => ?_, fun al => h.part m hmM n hnM al⟩
  have key : ∀ (c : Ctx), c.Ok S → ∀ m ∈ Ms, ∀ n ∈ Ms, K m = K n → c.mood R m ∈ Ms ∧ c.mood R n ∈ Ms ∧ K (c.mood R m) = K (c.mood R n) := by
    intro c
    induction c with
    | hole => exact fun _ m hm n hn e => ⟨hm, hn, e⟩
    | k1 s c ih =>
      intro hc m hm' n hn e
      obtain ⟨a1, a2, a3⟩ := ih hc.2.2 m hm' n hn e
      have := ((mark_eq (st _ a1 _ a2 a3)).2 s hc.1).1 hc.2.1
      exact ⟨led_in (k := [_]) hS hm hc.1 hc.2.1.symm (fun x hx => by rw [List.mem_singleton.mp hx]; exact a1), led_in (k := [_]) hS hm hc.1 hc.2.1.symm (fun x hx => by rw [List.mem_singleton.mp hx]; exact a2), this⟩
    | l s c u ih =>
      intro hc m hm' n hn e
      obtain ⟨a1, a2, a3⟩ := ih hc.2.2.1 m hm' n hn e
      have hu : moodT R u ∈ Ms := (hm _).mpr ⟨u, hc.2.2.2, rfl⟩
      have := (((mark_eq (st _ a1 _ a2 a3)).2 s hc.1).2 hc.2.1 _ hu).1
      refine ⟨led_in (k := [_, _]) hS hm hc.1 hc.2.1.symm (fun x hx => ?_), led_in (k := [_, _]) hS hm hc.1 hc.2.1.symm (fun x hx => ?_), this⟩
      · rcases List.mem_cons.mp hx with rfl | hx
        · exact a1
        · rw [List.mem_singleton.mp hx]
          exact hu
      · rcases List.mem_cons.mp hx with rfl | hx
        · exact a2
        · rw [List.mem_singleton.mp hx]
          exact hu
    | r s t c ih =>
      intro hc m hm' n hn e
      obtain ⟨a1, a2, a3⟩ := ih hc.2.2.2 m hm' n hn e
      have ht : moodT R t ∈ Ms := (hm _).mpr ⟨t, hc.2.2.1, rfl⟩
      have := (((mark_eq (st _ a1 _ a2 a3)).2 s hc.1).2 hc.2.1 _ ht).2
      refine ⟨led_in (k := [_, _]) hS hm hc.1 hc.2.1.symm (fun x hx => ?_), led_in (k := [_, _]) hS hm hc.1 hc.2.1.symm (fun x hx => ?_), this⟩
      · rcases List.mem_cons.mp hx with rfl | hx
        · exact ht
        · rw [List.mem_singleton.mp hx]
          exact a1
      · rcases List.mem_cons.mp hx with rfl | hx
        · exact ht
        · rw [List.mem_singleton.mp hx]
          exact a2
  intro c hc
  obtain ⟨a1, a2, a3⟩ := key c hc m hmM n hnM e
  exact h.lik _ a1 _ a2 a3
end
end TH
set_option maxRecDepth 100000
set_option maxHeartbeats 4000000
namespace TH
open PySem L2 Evl
abbrev sLChs : Stmt := top 46
def kD (k : List Nat) : PyData := tupI (ofN k)
theorem dts_kD {K : PySem.W.Frag} {M M' : Addr → Prop} {H : Hp} : ∀ {ks : List (List Nat)} {xs : List V}, Dts K M H xs (ks.map kD) → Dts K M' H xs (ks.map kD)
  | [], _, .nil => .nil
  | k :: ks, _, .cons h r => .cons (dt_any h) (dts_kD r)
def spLChs (K : PySem.W.Frag) : Sp := fun vs H Q _ => ∃ (v : V) (xs : List Nat) (c : Nat), vs = [v, .int (c : Int)] ∧ Dt K MF H v (intsD xs) ∧ c ≤ 2 ∧ xs.length ≤ 40 ∧
  ∀ l refs H', H l = none → Ex H H' → H' l = some (.lst refs) → Dts K MT H' refs ((chs xs c).map kD) → Q (.ref l) H'
theorem chs_small {xs : List Nat} (h : xs.length ≤ 40) {c : Nat} (hc : c ≤ 2) : (chs xs c).length ≤ 1600 := by
  rw [chs_len]
  have h1 : xs.length ^ c ≤ 40 ^ c := Nat.pow_le_pow_left h _
  have h2 : (40 : Nat) ^ c ≤ 40 ^ 2 := Nat.pow_le_pow_right (by decide) hc
  omega
theorem evA_one {te : TE} {σ : L2.St} {H : Hp} {v : V} (h : Ev te σ H v) : EvA (tCons te tNil) σ H [v] := fun H1 e Q q => h H1 e _ fun H2 e2 => q H2 e2
theorem ints_of (xs : List Nat) : intsD xs = .list (xs.map fun (x : Nat) => PyData.int (x : Int)) := by
  unfold intsD ofN
  rw [List.map_map]
  rfl
section
variable {P : Program} {w : World} {K : PySem.W.Frag} {mg : Str → Option Value} {base : Heap}
abbrev nLChs : List Str := ["_law_things", "_law_count", "_law_rows", "_law_turn", "_law_longer", "_law_row", "_law_thing"]
theorem scLChs : FnScope nLChs ["_law_things", "_law_count"] (defScope sLChs) := ⟨rfl, rfl, rfl, by decide +kernel, rfl, by decide +kernel, by decide +kernel⟩
theorem ok_lchs {f : Addr} {fd : FuncData} (F : Fun K "_law_choices" "_law_choices" sLChs f fd) (G : Glob mg) :
    FnOk P w K mg base CX0 1 f fd ["_law_things", "_law_count"] (spLChs K) := by
  refine F.ok scLChs (fun vs H Q E h => ?_) (fun cdv A outer s0 H vs Q E hr h => ?_)
  · obtain ⟨v, xs, c, rfl, _⟩ := h
    rfl
  · obtain ⟨v, xs, c, rfl, hv, hc, h6, q⟩ := h
    refine ⟨_, pss_cons (ps_set (i := 2) scLChs.nd rfl (.inl rfl) (pe_lst (pa_cons (pe_tup pa_nil) pa_nil)))
      (pss_cons (ps_for PassesOwn.never rfl (pi_range1 rfl G.range (pa_cons (pv 1) pa_nil)) (pg_name (i := 3) scLChs.nd rfl (.inl rfl))
        (pss_cons (ps_set (i := 4) scLChs.nd rfl (.inl rfl) (pe_lst pa_nil))
        (pss_cons (ps_for PassesOwn.never rfl (pi_list (pv 2)) (pg_name (i := 5) scLChs.nd rfl (.inr rfl))
          (pss_one (ps_expr (pe_bm PySem.F.plainAttrs_list PySem.F.slot_list_extend PySem.F.type_list_extend mt_extend (pv 4)
            (pa_cons (pe_lc (own := [("_law_thing", 6)]) (g := gName 6) (tt := tYes) rfl scLChs.nd (pi_list (pv 0))
              (blkOk_by (N := nLChs) (sc := defScope sLChs) (by decide +kernel)) (fun _ _ _ _ _ => pg_name (i := 6) scLChs.nd rfl (.inl rfl)) (fun _ _ _ _ _ => pts_nil)
              (fun _ _ _ _ _ => pe_op (op_catAK (K := K) rfl) (pv 5) (pe_tup (pa_cons (pv 6) pa_nil)))) pa_nil)))))
        (pss_one (ps_set (i := 2) scLChs.nd rfl (.inl rfl) (pv 4))))))
      (pss_one (ps_ret (pv 2)))), ?_⟩
    refine ⟨by show 0 ≤ sizeLine; decide, fun lt hlt => ⟨by show 1 ≤ sizeLine; decide, fun lr hlr => ?_⟩⟩
    have hlrH : H lr = none := fresh_back (Ex.new hlt) hlr
    have e1 : Ex H (upd (upd H lt (.tup [])) lr (.lst [.ref lt])) := (Ex.new hlt).trans (Ex.new hlr)
    have hne : lt ≠ lr := ne_of_none (upd_same (H := H) (a := lt)) hlr
    have hr1 : (upd (upd H lt (.tup [])) lr (.lst [.ref lt])) lr = some (.lst [.ref lt]) := upd_same
    have hr2 : (upd (upd H lt (.tup [])) lr (.lst [.ref lt])) lt = some (.tup []) := by rw [upd_ne hne]; exact upd_same
    generalize upd (upd H lt (.tup [])) lr (.lst [.ref lt]) = H1 at e1 hr1 hr2
    refine q_forR1 (n := (c : Int)) (evA_one (ev_var rfl)) (by omega)
      (fun i σ' H' => Ex H H' ∧ ∃ r refs u3 u4 u5, σ' = [some v, some (.int (c : Int)), some (.ref r), u3, u4, u5, none] ∧ H r = none ∧ H' r = some (.lst refs) ∧ Dts K MT H' refs ((chs xs i).map kD))
      (fun H2 e2 => ⟨e1.trans e2, lr, _, none, none, none, rfl, hlrH, e2 _ _ hr1, .cons (.tup (e2 _ _ hr2) .nil) .nil⟩) ?_ ?_
    · rintro i σ' H2 hi ⟨e2, r, refs, u3, u4, u5, rfl, hrH, hr2, dr⟩
      have hic : i ≤ 2 := by omega
      have h36 := chs_small h6 hic
      refine ⟨by show 0 ≤ sizeLine; decide, fun l hl => ?_⟩
      have hlH : H l = none := fresh_back e2 hl
      have hrl : r ≠ l := ne_of_none hr2 hl
      have e3 : Ex H2 (upd H2 l (.lst [])) := Ex.new hl
      have hl3 : (upd H2 l (.lst [])) l = some (.lst []) := upd_same
      generalize upd H2 l (.lst []) = H3 at e3 hl3
      have hlen : refs.length = (chs xs i).length := by rw [dr.length, List.length_map]
      refine q_forL (K := K) (a := r) (xs := refs) (ev_var rfl) (sq_of (e3 _ _ hr2))
        (fun j σ' H' => Ex H H' ∧ H' r = some (.lst refs) ∧ Dts K MT H' refs ((chs xs i).map kD) ∧ ∃ u5 ys, σ' = [some v, some (.int (c : Int)), some (.ref r), some (.int (i : Int)), some (.ref l), u5, none] ∧ H' l = some (.lst ys) ∧
          Dts K MT H' ys ((((chs xs i).take j).flatMap fun k => xs.map fun x => k ++ [x]).map kD) ∧ ys.length ≤ j * 40)
        (fun H4 e4 => ⟨(e2.trans e3).trans e4, e4 _ _ (e3 _ _ hr2), dr.ex (e3.trans e4), u5, [], rfl, e4 _ _ hl3, .nil, Nat.zero_le _⟩) (fun j σ' H' _ h => sq_of h.2.1) ?_ ?_
      · rintro j x σ' H4 hx ⟨e4, hr4, dr4, u5', ys, rfl, hl4, dys, hys⟩
        obtain ⟨hjx, _⟩ := List.getElem?_eq_some_iff.mp hx
        obtain ⟨d, hd, dx⟩ := dr4.get hx
        rw [List.getElem?_map] at hd
        cases hk : (chs xs i)[j]? with
        | none =>
          rw [hk] at hd
          cases hd
        | some k =>
        rw [hk] at hd
        cases hd
        have hkl := (mem_chs.mp (List.mem_of_getElem? hk)).1
        refine ⟨_, rfl, .inl ⟨rfl, _, SqL.of hl4⟩, (evn_lcM (K := K) (M := MF) (bs := xs) (enc := fun (x : Nat) => .int (x : Int)) (F := fun x => kD (k ++ [x])) okF (EvP.mono (evd_var (i := 0) rfl (hv.ex e4)) fun d h => h.trans (ints_of xs)) (Nat.lt_of_le_of_lt h6 (by decide)) (fun M' b x' H' hm ok' hb e dx' Qg qg => ?_)) H4 (Ex.refl _) _ fun l2 zs ds H5 hl2 e5 hl5 dzs pd => ?_⟩
        · refine qg _ H' (Ex.refl _) ⟨rfl, evt_yes, fun _ => ?_⟩
          refine EvP.mono (evd_catA (ds := (ofN k).map PyData.int) (es := [.int (b : Int)]) (evd_var (i := 5) (d := kD k) rfl (dt_any (dx.ex e))) (evd_tup (eva_cons (evd_var (i := 6) rfl dx') eva_nil) (by show 1 ≤ sizeLine; decide)) (by rw [List.length_map, ofN_len, hkl]; show i + 1 ≤ _; omega)) fun d h => ?_
          rw [h]
          show _ = PyData.tuple ((ofN (k ++ [b])).map PyData.int)
          unfold ofN
          rw [List.map_append, List.map_append]
          rfl
        · subst pd
          have zl := dzs.length
          rw [List.length_map] at zl
          have hl4' := e5 _ _ hl4
          have pe : (xs.map fun x => kD (k ++ [x])) = (xs.map fun x => k ++ [x]).map kD := by rw [List.map_map]; rfl
          rw [pe] at dzs
          refine ⟨l, l2, ys, zs, rfl, rfl, hl4', hl5, Nat.le_trans (show ys.length + zs.length ≤ 80000 by omega) (by decide), ?_⟩
          have dT : ∀ {ks : List (List Nat)} {vs : List V}, Dts K MT H5 vs (ks.map kD) → Dts K MT (upd H5 l (.lst (ys ++ zs))) vs (ks.map kD) := fun h => h.upd hl4' trivial
          refine ⟨Ex.mut (e4.trans e5) hlH, by rw [upd_ne hrl]; exact e5 _ _ hr4, dT (dr4.ex e5), _, ys ++ zs, rfl, upd_same, ?_, by rw [List.length_append]; omega⟩
          have := (dT (dys.ex e5)).append (dT (dts_kD dzs))
          rw [← List.map_append] at this
          rw [List.take_add_one, hk, List.flatMap_append]
          have e1 : List.flatMap (fun k => xs.map fun x => k ++ [x]) (some k).toList = xs.map fun x => k ++ [x] := by
            show List.flatMap _ [k] = _
            rw [List.flatMap_cons, List.flatMap_nil, List.append_nil]
          rw [e1]
          exact this
      · rintro σ' H4 ⟨e4, hr4, dr4, u5', ys, rfl, hl4, dys, hys⟩
        rw [hlen, List.take_length] at dys
        exact s_asg (ev_var (i := 4) rfl) fun H5 e5 => ⟨e4.trans e5, l, ys, _, _, _, rfl, hlH, e5 _ _ hl4, dys.ex e5⟩
    · rintro σ' H2 ⟨e2, r, refs, u3, u4, u5, rfl, hrH, hr2, dr⟩
      rw [Int.toNat_natCast] at dr
      exact ⟨_, rfl, q r refs H2 hrH e2 hr2 dr⟩
end
end TH
set_option maxRecDepth 100000
set_option maxHeartbeats 4000000
namespace TH
open PySem L2 Evl
def spLReader (K : PySem.W.Frag) : Sp := fun vs H Q _ => ∃ (b : Addr) (v : V) (S : List Sg) (most : Nat), vs = [.ref b, v, .int (most : Int)] ∧ H b = some (Box b) ∧ Dt K MF H v (.list (S.map sgD)) ∧ KidsOk S ∧ S.length ≤ 100 ∧ 1 ≤ most ∧ most ≤ 6 ∧
  ∀ x R H', Ex H H' → GoodR S R → R.moods ≤ most → NewD K H H' x (plD R) → Q x H'
/-- the mood to which a sign leads from a tuple of moods, from a list of moods -/
def spLLedT (K : PySem.W.Frag) : Sp := fun vs H Q _ => ∃ (M : Addr → Prop) (v z : V) (S : List Sg) (R : Pl) (s : Nat) (k : List Nat), vs = [v, .int (s : Int), z] ∧ Dt K M H v (plD R) ∧ (∃ a, z = .ref a ∧ SqT K H a (nums k)) ∧ GoodR S R ∧ KidsOk S ∧ s < S.length ∧ k.length = ks S s ∧ (∀ x ∈ k, x < R.moods) ∧
  ∀ H', Ex H H' → Q (.int (ledN R s k : Int)) H'
def spLLedL (K : PySem.W.Frag) : Sp := fun vs H Q _ => ∃ (M : Addr → Prop) (v z : V) (S : List Sg) (R : Pl) (s : Nat) (k : List Nat), vs = [v, .int (s : Int), z] ∧ Dt K M H v (plD R) ∧ (∃ a, z = .ref a ∧ SqL K H a (nums k)) ∧ GoodR S R ∧ KidsOk S ∧ s < S.length ∧ k.length = ks S s ∧ (∀ x ∈ k, x < R.moods) ∧
  ∀ H', Ex H H' → Q (.int (ledN R s k : Int)) H'
section
variable {K : PySem.W.Frag} {M M' : Addr → Prop} {H H1 H' : Hp} {σ : L2.St} {ta tb te tl : TE} {E : XK}
theorem evd_mulN {i j : Int} (ha : EvD K M ta σ H (.int i)) (hb : EvD K M tb σ H (.int j)) (h : -(2 ^ 64) < i ∧ i < 2 ^ 64) : EvD K M (tOp (rI CMul fun i j => .int (i * j)) ta tb) σ H (.int (i * j)) :=
  evp_I ha hb fun a b pa pb => ⟨i, j, pa, pb, .inl h, _, rfl, fun _ => .int _⟩
theorem evp_take1 {b : Addr} {n : Int} {z : Int} (hb : Ev tb σ H (.ref b)) (hx : H b = some (Box b)) (n0 : 0 < n) (n1 : n.natAbs < 2 ^ 200) :
    EvP K M (tOp rEq (tCall spTake [] E (tCons tb (tCons (tC (.int n)) tNil))) (tC (.int z))) σ H (fun d => ∃ c, d = .bool c ∧ True) :=
  evp_op (evp_take hb hx evd_int n0 n1) (evd_int (i := z)) fun x y a b H1 e dx dy px py Q q => by
    obtain ⟨k, rfl, _, _⟩ := px
    subst py
    cases dx
    cases dy
    exact ⟨rfl, q _ _ H1 (Ex.refl _) (.bl _) ⟨_, rfl, trivial⟩⟩
end
theorem pow_at {m : Nat} {k : Nat} (h : k ≤ 2) : [PyData.int 1, .int (m : Int), .int ((m : Int) * (m : Int))][k]? = some (.int ((m ^ k : Nat) : Int)) := by
  have : k = 0 ∨ k = 1 ∨ k = 2 := by omega
  rcases this with rfl | rfl | rfl
  · rw [Nat.pow_zero]
    rfl
  · rw [Nat.pow_one]
    rfl
  · rw [Nat.pow_two, Int.natCast_mul]
    rfl
section
variable {P : Program} {w : World} {K : PySem.W.Frag} {mg : Str → Option Value} {base : Heap}
abbrev nLReader : List Str := ["_law_box_here", "_law_signs_here", "_law_most", "_law_moods", "_law_tables", "_law_name", "_law_kids", "_law_turn", "_law_mood"]
theorem scLReader : FnScope nLReader ["_law_box_here", "_law_signs_here", "_law_most"] (defScope sLReader) := ⟨rfl, rfl, rfl, by decide +kernel, rfl, by decide +kernel, by decide +kernel⟩
theorem ok_lreader {f : Addr} {fd : FuncData} (F : Fun K "_law_reader" "_law_reader" sLReader f fd) (G : Glob mg) (GT : OneF P w K mg base "_law_take" 2 ["_law_box_here", "_law_count"] spTake) :
    FnOk P w K mg base CX0 3 f fd ["_law_box_here", "_law_signs_here", "_law_most"] (spLReader K) := by
  obtain ⟨fT, dT, mT, kT, gT, bT⟩ := GT
  refine F.ok scLReader (fun vs H Q E h => ?_) (fun cdv A outer s0 H vs Q E hr h => ?_)
  · obtain ⟨b, v, S, most, rfl, _⟩ := h
    rfl
  · obtain ⟨b, v, S, most, rfl, hb, hv, hK, hS100, m1, m6, q⟩ := h
    refine ⟨_, pss_cons (ps_set (i := 3) scLReader.nd rfl (.inr rfl) (pe_op op_add pe_int (pe_call gT hr rfl mT kT bT .nil pass0 (pa_cons (pv 0) (pa_cons (pv 2) pa_nil)))))
      (pss_cons (ps_set (i := 4) scLReader.nd rfl (.inl rfl) (pe_lst pa_nil))
      (pss_cons (ps_for PassesOwn.never rfl (pi_list (pv 1)) (pg_tup rfl (pgs_cons (pg_name (i := 5) scLReader.nd rfl (.inl rfl)) (pgs_cons (pg_name (i := 6) scLReader.nd rfl (.inl rfl)) pgs_nil)))
        (pss_one (ps_expr (pe_bm PySem.F.plainAttrs_list PySem.F.slot_list_append PySem.F.type_list_append mt_append (pv 4) (pa_cons (pe_lc (own := [("_law_turn", 7)]) (g := gName 7) (tt := tYes) rfl scLReader.nd
            (pi_range1 rfl G.range (pa_cons (pe_ix ix_list (pe_lst (pa_cons pe_int (pa_cons (pv 3) (pa_cons (pe_op op_mul (pv 3) (pv 3)) pa_nil)))) (pv 6) (fun _ _ => rfl)) pa_nil))
            (blkOk_by (N := nLReader) (sc := defScope sLReader) (by decide +kernel)) (fun _ _ _ _ _ => pg_name (i := 7) scLReader.nd rfl (.inl rfl)) (fun _ _ _ _ _ => pts_nil)
            (fun _ _ _ _ _ => pe_call gT hr rfl mT kT bT .nil pass0 (pa_cons (pv 0) (pa_cons (pv 3) pa_nil)))) pa_nil)))))
      (pss_one (ps_ret (pe_tup (pa_cons (pv 3) (pa_cons (pv 4) (pa_cons (pe_lc (own := [("_law_mood", 8)]) (g := gName 8) rfl scLReader.nd (pi_range1 rfl G.range (pa_cons (pv 3) pa_nil))
            (blkOk_by (N := nLReader) (sc := defScope sLReader) (by decide +kernel)) (fun _ _ _ _ _ => pg_name (i := 8) scLReader.nd rfl (.inl rfl))
            (fun _ _ _ _ _ => pts_one (pt_cmpR op_eq (pe_call gT hr rfl mT kT bT .nil pass0 (pa_cons (pv 0) (pa_cons pe_int pa_nil))) pe_int (nomark _))) (fun _ _ _ _ _ => pv 8)) pa_nil)))))))), ?_⟩
    have hv0 := hv
    cases hv with
    | lst s1 s2 s3 =>
    rename_i a xs
    have hxl : xs.length = S.length := by rw [s3.length, List.length_map]
    refine q_asgP (K := K) (M := MF) (P := fun d => ∃ m : Nat, d = .int (m : Int) ∧ 1 ≤ m ∧ m ≤ most) (evp_I0 (PB := fun d => ∃ k : Int, d = .int k ∧ 0 ≤ k ∧ k < (most : Int)) (evd_int (i := 1)) (evp_take (n := (most : Int)) (ev_var (i := 0) rfl) hb (evd_var (i := 2) rfl (.int _)) (by omega) (Nat.lt_of_le_of_lt (show ((most : Nat) : Int).natAbs ≤ 6 by omega) (by decide))) fun a b pa pb => ?_) fun vm dm H1 e1 dvm pm => ?_
    · obtain ⟨k, rfl, k0, k1⟩ := pb
      subst pa
      refine ⟨1, k, rfl, rfl, .int (1 + k), ⟨(1 + k).toNat, by rw [Int.toNat_of_nonneg (by omega)], by omega, by omega⟩, fun _ => .int _⟩
    obtain ⟨m, rfl, h1, h2⟩ := pm
    cases dvm
    have mp : ∀ k, k ≤ 2 → m ^ k ≤ 36 := fun k hk => by
      have : m ^ k ≤ 6 ^ k := Nat.pow_le_pow_left (by omega) k
      have : (6 : Nat) ^ k ≤ 6 ^ 2 := Nat.pow_le_pow_right (by decide) hk
      omega
    refine ⟨by decide, fun lt hlt => ?_⟩
    have hltH : H lt = none := fresh_back e1 hlt
    have e2 : Ex H (upd H1 lt (.lst [])) := e1.trans (Ex.new hlt)
    have hl2 : (upd H1 lt (.lst [])) lt = some (.lst []) := upd_same
    generalize upd H1 lt (.lst []) = H2 at e2 hl2
    refine q_forL (K := K) (a := a) (xs := xs) (ev_var (i := 1) rfl) (sq_of (e2 _ _ s1))
      (fun j σ' H' => Ex H H' ∧ ∃ u5 u6 refs tabs, σ' = [some (.ref b), some (.ref a), some (.int (most : Int)), some (.int (m : Int)), some (.ref lt), u5, u6, none, none] ∧ H' lt = some (.lst refs) ∧ (∀ M', Ok M' H → Dts K (more M' lt) H' refs (tabs.map intsD)) ∧ tabs.length = j ∧ (∀ (s : Nat) (tb : List Nat), tabs[s]? = some tb → tb.length = m ^ ks S s ∧ ∀ x ∈ tb, x < m))
      (fun H3 e3 => ⟨e2.trans e3, none, none, [], [], rfl, e3 _ _ hl2, fun _ _ => .nil, rfl, fun s tb h => by cases h⟩) (fun j σ' H' _ h => sq_of (h.1 _ _ s1)) ?_ ?_
    · rintro j x σ' H3 hx ⟨e3, u5, u6, refs, tabs, rfl, hl3, dt3, tl, tok⟩
      obtain ⟨d, hd, dx⟩ := s3.get hx
      rw [List.getElem?_map] at hd
      cases hSj : S[j]? with
      | none =>
        rw [hSj] at hd
        cases hd
      | some r =>
      rw [hSj] at hd
      cases hd
      have hj6 : j < S.length := (List.getElem?_eq_some_iff.mp hSj).1
      cases dx.ex e3 with
      | tup t1 t2 =>
      cases t2 with
      | cons r1 t2 =>
      cases r1
      cases t2 with
      | cons r2 t2 =>
      cases r2
      cases t2
      have hk := hK r (List.mem_of_getElem? hSj)
      have hk2 := ks_le hK j
      refine ⟨_, _, rfl, SqT.of t1, rfl, _, _, rfl, _, _, rfl, rfl, ?_⟩
      refine ⟨_, rfl, .inl ⟨rfl, _, SqL.of hl3⟩, evn_lcRI (K := K) (M := MF) (n := m ^ ks S j) (fun i es => ∃ tb : List Nat, es = (ofN tb).map PyData.int ∧ tb.length = i ∧ ∀ x ∈ tb, x < m) okF
        (eva_cons (evd_ixL (j := ks S j) (evd_lst okF (eva_cons evd_int (eva_cons (evd_var (i := 3) rfl (.int (m : Int))) (eva_cons (evd_mulN (evd_var (i := 3) rfl (.int (m : Int))) (evd_var (i := 3) rfl (.int (m : Int))) (by omega)) eva_nil))) (by show 3 ≤ sizeLine; decide)) (evd_var (i := 6) rfl (.int _)) (by rw [ks_of hSj]; omega) (pow_at hk2)) eva_nil)
        (Nat.le_trans (mp _ hk2) (by decide)) ⟨[], rfl, rfl, fun x h => nomatch h⟩ (fun M' i es H' hm ok' hi hI e Qg qg => ?_) H3 (Ex.refl _) _ fun c ys ds H4 hc e4 hc4 dys pI => ?_⟩
      · obtain ⟨tb, rfl, hl, hlt⟩ := hI
        refine qg _ H' (Ex.refl _) ⟨rfl, fun H5 e5 Q q => q true H5 (Ex.refl _) (fun _ => ?_) (fun h => nomatch h)⟩
        refine (evp_take (n := (m : Int)) (ev_var (i := 0) rfl) (((e3.trans e).trans e5) _ _ hb) (evd_var (i := 3) rfl (.int _)) (by omega) (Nat.lt_of_le_of_lt (show ((m : Nat) : Int).natAbs ≤ 6 by omega) (by decide))).mono fun d ⟨k, h1, k0, k1⟩ => ?_
        refine ⟨tb ++ [k.toNat], ?_, by rw [List.length_append, hl]; rfl, fun x hx => ?_⟩
        · unfold ofN
          rw [List.map_append, List.map_append, h1]
          show _ = _ ++ [PyData.int (k.toNat : Int)]
          rw [Int.toNat_of_nonneg k0]
        · rcases List.mem_append.mp hx with hx | hx
          · exact hlt x hx
          · rw [List.mem_singleton.mp hx]
            omega
      · obtain ⟨tb, rfl, hl, hltm⟩ := pI
        have hl4 := e4 _ _ hl3
        have hcl : c ≠ lt := (ne_of_none hl3 hc).symm
        have hcH : H c = none := fresh_back e3 hc
        have hrl : refs.length = j := by
          have := (dt3 MF (fun l h => h.elim)).length
          rw [this, List.length_map, tl]
        refine ⟨lt, refs, .ref c, rfl, rfl, hl4, by rw [hrl]; exact Nat.lt_of_le_of_lt (show j ≤ 100 by omega) (by decide), ?_⟩
        refine ⟨Ex.mut (e3.trans e4) hltH, _, _, refs ++ [.ref c], tabs ++ [tb], rfl, upd_same, fun M' ok => ?_, by rw [List.length_append, tl]; rfl, fun s tb' h => ?_⟩
        · rw [List.map_append]
          refine (((dt3 M' ok).ex e4).append (.one (.lst hc4 (fun z => z.elim (fun z => ok c z hcH) hcl) ?_))).upd hl4 (.inr rfl)
          rw [dts_intsN dys]
          exact nums_dts tb
        · by_cases hs : s < tabs.length
          · rw [List.getElem?_append_left hs] at h
            exact tok s tb' h
          · have hs2 := (List.getElem?_eq_some_iff.mp h).1
            rw [List.length_append] at hs2
            have hs2 : s < tabs.length + 1 := hs2
            have es : s = j := by omega
            subst es
            rw [List.getElem?_append_right (by omega), show s - tabs.length = 0 by omega] at h
            cases h
            exact ⟨hl, hltm⟩
    · rintro σ' H3 ⟨e3, u5, u6, refs, tabs, rfl, hl3, dt3, tl, tok⟩
      rw [hxl] at tl
      refine ⟨_, rfl, _, rfl, evn_lcRI (K := K) (M := MF) (n := m) (fun i es => ∃ ls : List Nat, es = (ofN ls).map PyData.int ∧ ls.Pairwise (· < ·) ∧ ∀ x ∈ ls, x < i) okF (eva_cons (evd_var (i := 3) rfl (.int _)) eva_nil) (by omega) ⟨[], rfl, .nil, fun x h => nomatch h⟩ (fun M' i es H' hm ok' hi hI e Qg qg => ?_) H3 (Ex.refl _) _ fun c ys ds H4 hc e4 hc4 dys pI => ⟨by show 3 ≤ sizeLine; decide, fun p hp => ?_⟩⟩
      · obtain ⟨ls, rfl, hl, hlt⟩ := hI
        refine qg _ H' (Ex.refl _) ⟨rfl, fun H5 e5 Q q => evtp_test (K := K) (M := MF) (PB := fun _ => True) (evp_take1 (ev_var (i := 0) rfl) (((e3.trans e).trans e5) _ _ hb) (by decide) (by decide)) H5 (Ex.refl _) Q fun c H6 e6 _ => q c H6 e6 (fun _ => ?_) (fun _ => ⟨ls, rfl, hl, fun x hx => Nat.lt_succ_of_lt (hlt x hx)⟩)⟩
        refine (evd_var (i := 8) rfl (.int (i : Int))).mono fun d h => ⟨ls ++ [i], ?_, List.pairwise_append.mpr ⟨hl, List.pairwise_singleton _ _, fun x hx y hy => by rw [List.mem_singleton.mp hy]; exact hlt x hx⟩, fun x hx => ?_⟩
        · unfold ofN
          rw [List.map_append, List.map_append, h]
          rfl
        · rcases List.mem_append.mp hx with hx | hx
          · exact Nat.lt_succ_of_lt (hlt x hx)
          · rw [List.mem_singleton.mp hx]
            exact Nat.lt_succ_self _
      · obtain ⟨ls, rfl, hl, hltm⟩ := pI
        have e5 : Ex H4 (upd H4 p (.tup [.int (m : Int), .ref lt, .ref c])) := Ex.new hp
        have hcH : H c = none := fresh_back e3 hc
        refine q _ ⟨m, tabs, ls⟩ _ ((e3.trans e4).trans e5) ⟨⟨h1, tl, tok, hl, hltm⟩, by show m ≤ 40; omega⟩ h2 fun M' ok => .tup upd_same (.cons (.int _) (.cons (.lst ((e4.trans e5) _ _ hl3) (fun z => ok lt z hltH) (((dt3 M' ok).weak fun a h => .inl h).ex (e4.trans e5))) (.cons (.lst (e5 _ _ hc4) (fun z => ok c z hcH) ?_) .nil)))
        rw [dts_intsN dys]
        exact nums_dts ls
end
end TH
set_option maxRecDepth 100000
set_option maxHeartbeats 4000000
namespace TH
open PySem L2 Evl
theorem tabs_at {R : Pl} {s : Nat} {tb : List Nat} (h : R.tables[s]? = some tb) : (R.tables.map intsD)[s]? = some (.list ((ofN tb).map PyData.int)) := by
  rw [List.getElem?_map, h]
  rfl
theorem fold_snoc {m : Nat} {k : List Nat} {i x : Nat} (h : k[i]? = some x) : spotN m (k.take (i + 1)) = spotN m (k.take i) * m + x := by
  unfold spotN
  rw [List.take_add_one, h]
  show (k.take i ++ [x]).foldl _ 0 = _
  rw [List.foldl_append]
  rfl
theorem spot_small {R : Pl} {S : List Sg} (g : GoodR S R) {k : List Nat} (hK : k.length ≤ 2) (hm : ∀ x ∈ k, x < R.moods) (i : Nat) : spotN R.moods (k.take i) ≤ 1600 := by
  have h := spotN_lt (m := R.moods) (k := k.take i) fun x hx => hm x (List.mem_of_mem_take hx)
  have h1 : R.moods ^ (k.take i).length ≤ 40 ^ (k.take i).length := Nat.pow_le_pow_left g.m6 _
  have h2 : (40 : Nat) ^ (k.take i).length ≤ 40 ^ 2 := Nat.pow_le_pow_right (by decide) (by rw [List.length_take]; omega)
  omega
section
variable {P : Program} {w : World} {K : PySem.W.Frag} {mg : Str → Option Value} {base : Heap}
abbrev nLLed : List Str := ["_law_plain", "_law_sign", "_law_kids", "_law_spot", "_law_mood"]
theorem scLLed : FnScope nLLed ["_law_plain", "_law_sign", "_law_kids"] (defScope sLLed) := ⟨rfl, rfl, rfl, by decide +kernel, rfl, by decide +kernel, by decide +kernel⟩
/-- what the loop and the end of it want, once for lists and tuples -/
theorem led_end {M : Addr → Prop} {H H1 : Hp} {v z : V} {S : List Sg} {R : Pl} {s : Nat} {k : List Nat} {u : Option V} {D : Ends} (hv : Dt K M H v (plD R)) (g : GoodR S R) (hs : s < S.length) (hk : k.length = ks S s) (hm : ∀ x ∈ k, x < R.moods) (e : Ex H H1)
    (q : ∀ H', Ex H H' → D.rt (.int (ledN R s k : Int)) H') :
    tRet (tOp (rIxL K) (tOp (rIxL K) (tOp (rIxT K) (tVar 0) (tC (.int 1))) (tVar 1)) (tVar 3)) D [some v, some (.int (s : Int)), some z, some (.int (spotN R.moods k : Int)), u] H1 := by
  obtain ⟨tb, h1, h2, h3⟩ := g.led hs hk hm
  refine s_retP (K := K) (M := M) (evd_ixL (j := spotN R.moods k) (evd_ixL (j := s) (evd_ixT (j := 1) (ds := [.int (R.moods : Int), .list (R.tables.map intsD), intsD R.liked]) (evd_var (i := 0) (d := plD R) rfl (hv.ex e)) evd_int rfl rfl) (evd_var (i := 1) rfl (.int _)) rfl (tabs_at h1)) (evd_var (i := 3) rfl (.int _)) rfl (by rw [List.getElem?_map, ofN_at h2]; rfl)) fun x d H2 e2 dx pd => ?_
  subst pd
  cases dx
  exact q H2 (e.trans e2)
theorem led_turn {M : Addr → Prop} {H H1 : Hp} {v z : V} {S : List Sg} {R : Pl} {s : Nat} {k : List Nat} {i x : Nat} {D : Ends} (hv : Dt K M H v (plD R)) (g : GoodR S R) (hk2 : k.length ≤ 2) (hm : ∀ x ∈ k, x < R.moods) (e : Ex H H1) (hx : k[i]? = some x)
    (q : ∀ H', Ex H H' → D.nx [some v, some (.int (s : Int)), some z, some (.int (spotN R.moods (k.take (i + 1)) : Int)), some (.int (x : Int))] H') :
    tAsg (tOp (rI0 fun i j => .int (i + j)) (tOp (rI CMul fun i j => .int (i * j)) (tVar 3) (tOp (rIxT K) (tVar 0) (tC (.int 0)))) (tVar 4)) (gName 3) D [some v, some (.int (s : Int)), some z, some (.int (spotN R.moods (k.take i) : Int)), some (.int (x : Int))] H1 := by
  have hs := spot_small g hk2 hm i
  refine s_asgP (K := K) (M := M) (evd_add (evd_mulN (evd_var (i := 3) rfl (.int _)) (evd_ixT (j := 0) (ds := [.int (R.moods : Int), .list (R.tables.map intsD), intsD R.liked]) (evd_var (i := 0) (d := plD R) rfl (hv.ex e)) evd_int rfl rfl) (by omega)) (evd_var (i := 4) rfl (.int _))) fun y d H2 e2 dy pd => ?_
  subst pd
  cases dy
  have := q H2 (e.trans e2)
  rw [fold_snoc hx, Int.natCast_add, Int.natCast_mul] at this
  exact this
theorem ok_lledT {f : Addr} {fd : FuncData} (F : Fun K "_law_led" "_law_led" sLLed f fd) :
    FnOk P w K mg base CX0 1 f fd ["_law_plain", "_law_sign", "_law_kids"] (spLLedT K) := by
  refine F.ok scLLed (fun vs H Q E h => ?_) (fun cdv A outer s0 H vs Q E hr h => ?_)
  · obtain ⟨M, v, z, S, R, s, k, rfl, _⟩ := h
    rfl
  · obtain ⟨M, v, z, S, R, s, k, rfl, hv, ⟨a, rfl, ha⟩, g, hK, hs, hk, hm, q⟩ := h
    refine ⟨_, pss_cons (ps_set (i := 3) scLLed.nd rfl (.inl rfl) pe_int)
      (pss_cons (ps_for PassesOwn.never rfl (pi_tup (pv 2)) (pg_name (i := 4) scLLed.nd rfl (.inl rfl))
        (pss_one (ps_set (i := 3) scLLed.nd rfl (.inl rfl) (pe_op op_add (pe_op op_mul (pv 3) (pe_ix ix_tup (pv 0) pe_int (fun _ _ => rfl))) (pv 4)))))
      (pss_one (ps_ret (pe_ix ix_list (pe_ix ix_list (pe_ix ix_tup (pv 0) pe_int (fun _ _ => rfl)) (pv 1) (fun _ _ => rfl)) (pv 3) (fun _ _ => rfl))))), ?_⟩
    have hk2 : k.length ≤ 2 := by rw [hk]; exact ks_le hK s
    refine ⟨_, rfl, a, rfl, ⟨_, ha⟩, for_tup (K := K) (a := a) (xs := nums k) (fun i σ' H' => Ex H H' ∧ ∃ u, σ' = [some v, some (.int (s : Int)), some (.ref a), some (.int (spotN R.moods (k.take i) : Int)), u])
      ⟨Ex.refl H, none, rfl⟩ (fun i σ' H' _ z => ex_t z.1 ha) ?_ ?_⟩
    · rintro i x σ' H1 hx ⟨e, u, rfl⟩
      obtain ⟨hi, _⟩ := List.getElem?_eq_some_iff.mp hx
      rw [nums_len] at hi
      have hx1 : k[i]? = some (k[i]'hi) := List.getElem?_eq_getElem _
      rw [nums_at hx1] at hx
      cases hx
      exact led_turn hv g hk2 hm e hx1 fun H' e' => ⟨e', _, rfl⟩
    · rintro σ' H1 ⟨e, u, rfl⟩
      rw [nums_len, List.take_length]
      exact led_end hv g hs hk hm e q
theorem ok_lledL {f : Addr} {fd : FuncData} (F : Fun K "_law_led" "_law_led" sLLed f fd) :
    FnOk P w K mg base CX0 1 f fd ["_law_plain", "_law_sign", "_law_kids"] (spLLedL K) := by
  refine F.ok scLLed (fun vs H Q E h => ?_) (fun cdv A outer s0 H vs Q E hr h => ?_)
  · obtain ⟨M, v, z, S, R, s, k, rfl, _⟩ := h
    rfl
  · obtain ⟨M, v, z, S, R, s, k, rfl, hv, ⟨a, rfl, ha⟩, g, hK, hs, hk, hm, q⟩ := h
    refine ⟨_, pss_cons (ps_set (i := 3) scLLed.nd rfl (.inl rfl) pe_int)
      (pss_cons (ps_for PassesOwn.never rfl (pi_list (pv 2)) (pg_name (i := 4) scLLed.nd rfl (.inl rfl))
        (pss_one (ps_set (i := 3) scLLed.nd rfl (.inl rfl) (pe_op op_add (pe_op op_mul (pv 3) (pe_ix ix_tup (pv 0) pe_int (fun _ _ => rfl))) (pv 4)))))
      (pss_one (ps_ret (pe_ix ix_list (pe_ix ix_list (pe_ix ix_tup (pv 0) pe_int (fun _ _ => rfl)) (pv 1) (fun _ _ => rfl)) (pv 3) (fun _ _ => rfl))))), ?_⟩
    have hk2 : k.length ≤ 2 := by rw [hk]; exact ks_le hK s
    refine ⟨_, rfl, a, rfl, ⟨_, ha⟩, for_list (K := K) (a := a) (xs := nums k) (fun i σ' H' => Ex H H' ∧ ∃ u, σ' = [some v, some (.int (s : Int)), some (.ref a), some (.int (spotN R.moods (k.take i) : Int)), u])
      ⟨Ex.refl H, none, rfl⟩ (fun i σ' H' _ z => ex_l z.1 ha) ?_ ?_⟩
    · rintro i x σ' H1 hx ⟨e, u, rfl⟩
      obtain ⟨hi, _⟩ := List.getElem?_eq_some_iff.mp hx
      rw [nums_len] at hi
      have hx1 : k[i]? = some (k[i]'hi) := List.getElem?_eq_getElem _
      rw [nums_at hx1] at hx
      cases hx
      exact led_turn hv g hk2 hm e hx1 fun H' e' => ⟨e', _, rfl⟩
    · rintro σ' H1 ⟨e, u, rfl⟩
      rw [nums_len, List.take_length]
      exact led_end hv g hs hk hm e q
end
end TH
set_option maxRecDepth 100000
set_option maxHeartbeats 4000000
namespace TH
open PySem L2 Evl
/-! ### the moods that are met, found anew -/
structure MetL (S : List Sg) (R : Pl) (ms : List Nat) : Prop where
  sort : ms.Pairwise (· < ·)
  mem : ∀ m, m ∈ ms ↔ Met S R m
structure MInv (S : List Sg) (R : Pl) (fs : List Nat) : Prop where
  nd : fs.Nodup
  met : ∀ x ∈ fs, Met S R x
def b2n : Bool → Nat
  | true => 1
  | false => 0
theorem met_lt {S : List Sg} {R : Pl} (h : Wf S R) {m : Nat} (hm : Met S R m) : m < R.moods := by
  obtain ⟨t, ht, rfl⟩ := hm
  exact h.mood t ht
theorem MInv.le {S : List Sg} {R : Pl} {fs : List Nat} (hR : Wf S R) (h : MInv S R fs) : fs.length ≤ R.moods := by
  have := pigeon h.nd (ws := List.range R.moods) fun a ha => List.mem_range.mpr (met_lt hR (h.met a ha))
  rw [List.length_range] at this
  exact this
theorem closed_met {S : List Sg} {R : Pl} {fs : List Nat} (h : ∀ s, s < S.length → ∀ k ∈ chs fs (ks S s), ledN R s k ∈ fs) : ∀ t : Tr, OkT S t → moodT R t ∈ fs := by
  intro t
  induction t with
  | n0 s =>
    intro ho
    exact h s ho.1 [] (mem_chs.mpr ⟨ho.2.symm, fun x hx => nomatch hx⟩)
  | n1 s t ih =>
    intro ho
    exact h s ho.1 [moodT R t] (mem_chs.mpr ⟨ho.2.1.symm, fun x hx => by rw [List.mem_singleton.mp hx]; exact ih ho.2.2⟩)
  | n2 s t u ih1 ih2 =>
    intro ho
    exact h s ho.1 [moodT R t, moodT R u] (mem_chs.mpr ⟨ho.2.1.symm, fun x hx => by
      rcases List.mem_cons.mp hx with rfl | hx
      · exact ih1 ho.2.2.1
      · rw [List.mem_singleton.mp hx]
        exact ih2 ho.2.2.2⟩)
theorem perm_ofN : ∀ {ns : List Int} {fs : List Nat}, ns.Perm (ofN fs) → ∃ ms : List Nat, ns = ofN ms ∧ ms.Perm fs := by
  intro ns fs h
  refine ⟨ns.map Int.toNat, ?_, ?_⟩
  · unfold ofN
    rw [List.map_map]
    refine (List.map_id _).symm.trans (List.map_congr_left fun z hz => ?_)
    have hz := h.mem_iff.mp hz
    obtain ⟨a, _, rfl⟩ := List.mem_map.mp hz
    rfl
  · have := h.map Int.toNat
    unfold ofN at this
    rw [List.map_map] at this
    have e : fs.map (Int.toNat ∘ fun (s : Nat) => (s : Int)) = fs := (List.map_congr_left fun a _ => rfl).trans (List.map_id _)
    rw [e] at this
    exact this
theorem sort_lt {ms : List Nat} (h : (ofN ms).Pairwise (· ≤ ·)) (nd : ms.Nodup) : ms.Pairwise (· < ·) := by
  unfold ofN at h
  rw [List.pairwise_map] at h
  exact h.imp₂ (fun a b h1 h2 => by omega) nd
section
variable {K : PySem.W.Frag} {M M' : Addr → Prop} {H H1 H' : Hp} {σ : L2.St} {ta tb te tc tl : TE} {tt : TT} {g : TG} {vs : List Nat} {tr : TA} {D : Ends} {tz tu : TS} {E : XK} {S : List Sg} {R : Pl}
theorem evA_I {i : Int} (h : EvD K M te σ H (.int i)) : EvA (tCons te tNil) σ H [.int i] := fun H1 e Q q => h H1 e _ fun v d H2 e2 dv pd => by
  subst pd
  cases dv
  exact q H2 e2
theorem evd_ks {i s : Nat} {v : V} (hv : Dt K M H v (.list (S.map sgD))) (hK : KidsOk S) (hs : s < S.length) (h0 : σ[i]? = some (some v)) (ht : EvD K M te σ H (.int (s : Int))) :
    EvD K M (tOp (rIxT K) (tOp (rIxL K) (tVar i) te) (tC (.int 1))) σ H (.int (ks S s : Int)) := by
  have hq : S[s]? = some (S[s]'hs) := List.getElem?_eq_getElem _
  have h := evd_ar (K := K) (M := M) (k := 0) h0 hv ht rfl hq
  have := hK _ (List.mem_of_getElem? hq)
  rw [ks_of hq, Int.toNat_of_nonneg this.1]
  exact h
theorem evn_chs {xs : List Nat} {c : Nat} (ha : EvD K MF ta σ H (intsD xs)) (hb : EvD K MF tb σ H (.int (c : Int))) (hc : c ≤ 2) (h6 : xs.length ≤ 40) : EvNew K MT (tCall (spLChs K) [] E (tCons ta (tCons tb tNil))) σ H (· = (chs xs c).map kD) := fun H1 e Q q =>
  ha H1 e _ fun v d H2 e2 dv pd => hb H2 (e.trans e2) _ fun v' d' H3 e3 dv' pd' => by
    subst pd pd'
    cases dv'
    exact ⟨v, xs, c, rfl, dv.ex e3, hc, h6, fun l refs H4 hl e4 hl4 dr => q l refs _ H4 (fresh_back (e2.trans e3) hl) ((e2.trans e3).trans e4) hl4 dr rfl⟩
theorem evd_led {s : Nat} {k : List Nat} (ha : EvD K M ta σ H (plD R)) (hb : EvD K M tb σ H (.int (s : Int))) (hc : EvD K M tc σ H (kD k)) (g : GoodR S R) (hK : KidsOk S) (hs : s < S.length) (hk : k.length = ks S s) (hm : ∀ x ∈ k, x < R.moods) :
    EvD K M (tCall (spLLedT K) [] E (tCons ta (tCons tb (tCons tc tNil)))) σ H (.int (ledN R s k : Int)) := fun H1 e Q q =>
  ha H1 e _ fun v d H2 e2 dv pd => hb H2 (e.trans e2) _ fun v' d' H3 e3 dv' pd' => hc H3 ((e.trans e2).trans e3) _ fun v2 d2 H4 e4 dv2 pd2 => by
    subst pd pd' pd2
    cases dv'
    obtain ⟨a, rfl, ha⟩ := dt_tup dv2
    refine ⟨M, v, .ref a, S, R, s, k, rfl, dv.ex (e3.trans e4), ⟨a, rfl, ?_⟩, g, hK, hs, hk, hm, fun H5 e5 => q _ _ H5 (((e2.trans e3).trans e4).trans e5) (.int _) rfl⟩
    have : (ofN k).map V.int = nums k := by
      unfold ofN nums
      rw [List.map_map]
      rfl
    rw [← this]
    exact ha
theorem evd_notInI {z : Int} {ys : List Int} (ha : EvD K M ta σ H (.int z)) (hb : EvD K M tb σ H (.list (ys.map PyData.int))) : EvD K M (tOp (rIn K true) ta tb) σ H (.bool (!decide (z ∈ ys))) :=
  evp_op ha hb fun x y a b H1 e dx dy px py Q q => by
    subst px py
    cases dx
    cases dy with
    | lst k1 k2 k3 =>
      have e := k3.ints
      subst e
      refine ⟨_, _, rfl, .inl (sq_of k1), rfl, flat_ints ys, ?_⟩
      rw [inV_int]
      exact q _ _ H1 (Ex.refl _) (.bl _) rfl
theorem mem_ofN {m : Nat} {xs : List Nat} : (m : Int) ∈ ofN xs ↔ m ∈ xs := by
  unfold ofN
  rw [List.mem_map]
  constructor
  · rintro ⟨a, ha, e⟩
    have : a = m := by omega
    rw [← this]
    exact ha
  · intro h
    exact ⟨m, h, rfl⟩
theorem nums_eq (xs : List Nat) : nums xs = (ofN xs).map V.int := by
  unfold ofN nums
  rw [List.map_map]
  rfl
theorem dt_numsF {a : Addr} {xs : List Nat} (h : H a = some (.lst (nums xs))) : Dt K MF H (.ref a) (intsD xs) := .lst h (fun h => h) (nums_dts xs)
end
end TH
set_option maxRecDepth 100000
set_option maxHeartbeats 4000000
/-! ### sorted: of lists of tuples, the first of them empty -/
namespace PySem.SeqAt
open AutoSeq1 (wpAny_loadPart')
open MeetsSeq MeetsSeq2 MeetsSeq3 SeqRoads2
open PySem PyProof.Rows
theorem th_call_tuple_lt {A : Around} {s : Shared} {prog : Program} {w : World} {E : Value → Shared → Prop} {Q : Value → Shared → Prop} {l b : Addr} {items items2 : Array Value} {e r : Nat → Bool} (hl : s.heap.IsTuple l items) (hb : s.heap.IsTuple b items2)
    (he : ∀ j (h1 : j < items.size) (h2 : j < items2.size), EqAt A.in1 s items[j] items2[j] (e j)) (hr : ∀ j (h1 : j < items.size) (h2 : j < items2.size), e j = false → RcLt A.in1 s items[j] items2[j] (r j))
    (h : Q (.bool (firstLt e r (decide (items.size < items2.size)) (List.range (min items.size items2.size)))) s) : wpAny (model prog w) A (call (.builtin "tuple.__lt__") [.ref l, .ref b]) Q E s := by
  obtain ⟨⟨cls, dd, data, sl⟩, ho, hc, n, hd⟩ := id hl
  obtain ⟨⟨cls2, dd2, data2, sl2⟩, ho2, hc2, n2, hd2⟩ := id hb
  simp only at hc hd hc2 hd2
  subst hc hd hc2 hd2
  exact call_meets F.slot_tuple_lt ⟨_, ho, rfl⟩ F.entry_tuple_lt (F.args_tuple_lt_2 _ _) (tuple_ltAt l b items items2 n n2 dd dd2 sl sl2 e r) ⟨ho, ho2, he, hr, h⟩
end PySem.SeqAt
namespace PySem.W
open PySem PySem.SeqAt PyProof.Rows
section
variable {prog : Program} {w : World} {A : Around} {s : Shared} {E : Value → Shared → Prop}
theorem th_oneLt_tup {xs ys : List PyData} {a b : Value} {as bs : List Addr} {Q : Bool → Shared → Prop} (ra : Reads s.heap a (.tuple xs) as) (rb : Reads s.heap b (.tuple ys) bs) (h : alike (.tuple xs) (.tuple ys) = true)
    (hu : A.units + min (PyData.tuple xs).depth (PyData.tuple ys).depth < cLine) (hq : Q (dataLt (.tuple xs) (.tuple ys)) s) : wpAny (model prog w) A (oneLt' true a b) Q E s := by
  have hal : alikeAll xs ys = true := by simpa [alike] using h
  cases ra with
  | @tuple l o vs n _ as₁ h1 h2 h3 h4 =>
    cases rb with
    | @tuple l' o' vs' n' _ bs₁ k1 k2 k3 k4 =>
      have n1 : vs.size = xs.length := by simpa using ReadsAll.length _ _ _ h4
      have n2 : vs'.size = ys.length := by simpa using ReadsAll.length _ _ _ k4
      rw [dataLt_tuple, ← firstLt_toks xs ys hal, ← n1, ← n2] at hq
      rw [oneLt'_eq]
      simp only [if_true]
      refine wpAny_bind (wpAny_cRoomFor (room_here hu) ?_)
      refine wpAny_bind (wpAny_callSpecialIfBound?_slot (T := "tuple") ⟨_, h1, h2⟩ F.slot_tuple_lt (th_call_tuple_lt (e := pairEq xs ys) (r := fun j => dataLt (xs.getD j .none) (ys.getD j .none)) ⟨_, h1, h2, _, h3⟩ ⟨_, k1, k2, _, k3⟩ (fun j j1 j2 => ?_) (fun j j1 j2 hj => ?_) ?_))
      · have := eqAt_alikeAll xs ys A.in1 s vs.toList vs'.toList _ _ h4 k4 hal (room_in hu) j (by simpa using j1) (by simpa using j2)
        simpa using this
      · have := rcLt_alikeAll xs ys A.in1 s vs.toList vs'.toList _ _ h4 k4 hal (room_in hu) j (by simpa using j1) (by simpa using j2) hj
        simpa using this
      · exact wpAny_truthy_bool hq
/-- tuples, the first of them empty -/
def Sortable0 (ds : List PyData) : Prop := (∃ r, ds = .tuple [] :: r) ∧ ∀ d, d ∈ ds → ∃ xs, d = .tuple xs
end
section
variable {M : Model} {A : Around} {s : Shared} {E : Value → Shared → Prop}
def TupFirst (h : Heap) (v : Value) (f : Option Value) : Prop := ∃ a o xs n, v = .ref a ∧ h.get? a = some o ∧ o.cls = .type "tuple" ∧ o.data = .seq xs n ∧ xs[0]? = f
theorem th_firsts : ∀ (vs : List Value) (fs : List (Option Value)) {Q : List (Option Value) → Shared → Prop}, EachIs (TupFirst s.heap) vs fs → Q fs s → wpAny M A (vs.mapM firstOfTuple') Q E s
  | [], [], _, _, h => by rw [List.mapM_nil]; exact wpAny_pure h
  | [], _ :: _, _, t, _ => nomatch t
  | _ :: _, [], _, t, _ => nomatch t
  | v :: vs, f :: fs, Q, t, h => by
    cases t with
    | cons t0 t =>
    obtain ⟨a, o, xs, n, rfl, ho, hc, hd, hf⟩ := t0
    rw [List.mapM_cons]
    refine wpAny_bind ?_
    rw [kas_first_eq]
    refine wpAny_bind (Looks.here (show Looks M s.heap (typeOf (.ref a)) o.cls from (Looks.ld ho).andThen .now) ?_)
    rw [hc, if_neg (by first | decide | simp)]
    refine wpAny_bind (listItems_at ho hd (wpAny_pure ?_))
    rw [hf]
    exact wpAny_bind (th_firsts vs fs (Q := fun bs s' => wpAny M A (pure (f :: bs)) Q E s') t (wpAny_pure h))
theorem th_kind0 {v : Value} {vs : List Value} {fs : List (Option Value)} {Q : SortKind → Shared → Prop} (t : EachIs (TupFirst s.heap) (v :: vs) (none :: fs)) (h : Q oneType' s) : wpAny M A (keyKind' (v :: vs).toArray) Q E s := by
  rw [keyKind'_eq, List.mapM_toArray, map_eq_pure_bind]
  refine wpAny_bind (wpAny_bind (th_firsts _ _ t (wpAny_pure ?_)))
  rw [if_neg (by simp), if_neg (by simp)]
  rw [oneTypeOnly'_eq, List.mapM_toArray, map_eq_pure_bind]
  refine wpAny_bind (wpAny_bind (wpAny_bind (kas_mapM (r := Value.type "tuple") _ (fun u hu Q' hq => ?_) (wpAny_pure ?_))))
  · obtain ⟨f, _, a, o, xs, n, rfl, ho, hc, _⟩ := t.left u hu
    exact Looks.here (show Looks M s.heap (typeOf (.ref a)) (Value.type "tuple") from hc ▸ (Looks.ld ho).andThen .now) hq
  · have hall : ((List.map (fun _ => Value.type "tuple") (v :: vs)).toArray.all fun x => x == Value.type "tuple") = true := by
      simp only [List.all_toArray, List.all_map, List.all_eq_true]
      intro _ _
      rfl
    have h0 : (List.map (fun _ => Value.type "tuple") (v :: vs)).toArray[0]? = some (Value.type "tuple") := by simp
    rw [h0]
    simp only [hall, if_true]
    exact wpAny_pure (wpAny_pure h)
end
theorem th_tupFirst {h : Heap} : ∀ {vs : List Value} {ds : List PyData}, EachIs (fun v d => ∃ as, Reads h v d as) vs ds → (∀ d, d ∈ ds → ∃ xs, d = .tuple xs) → ∃ fs, EachIs (TupFirst h) vs fs ∧ ∀ r, ds = .tuple [] :: r → ∃ fs', fs = none :: fs'
  | _, _, .nil, _ => ⟨[], .nil, fun r z => nomatch z⟩
  | _, _, .cons (b := d) ⟨as, r⟩ t, ht => by
    obtain ⟨fs, h1, _⟩ := th_tupFirst t fun d hd => ht d (List.mem_cons_of_mem _ hd)
    obtain ⟨xs, rfl⟩ := ht d (List.mem_cons_self ..)
    cases r with
    | @tuple a o vs n _ _ ho hc hd hr =>
      refine ⟨vs[0]? :: fs, .cons ⟨a, o, vs, n, rfl, ho, hc, hd, rfl⟩ h1, fun r z => ⟨fs, ?_⟩⟩
      cases z
      have q : vs.toList = [] := by
        cases q : vs.toList with
        | nil => rfl
        | cons f fr =>
          rw [q] at hr
          cases hr
      rw [← Array.getElem?_toList, q]
      rfl
section
variable {prog : Program} {w : World} {A : Around} {s : Shared} {E : Value → Shared → Prop}
/-- tuples, the first of them empty, can be sorted -/
theorem th_SortsAt0 {vs : List Value} {ds : List PyData} (e : EachIs (fun v d => ∃ as, Reads s.heap v d as) vs ds) (hal : AllAlike ds) (hk : Sortable0 ds) (hu : ∀ d, d ∈ ds → A.units + d.depth < cLine) : SortsAt prog w A s (dataKind s.heap ds) vs := by
  have room : ∀ {d d' : PyData}, d ∈ ds → A.units + min d.depth d'.depth < cLine := fun {d d'} hd => Nat.lt_of_le_of_lt (Nat.add_le_add_left (Nat.min_le_left _ _) _) (hu d hd)
  refine ⟨fun v hv => ?_, oneType', ?_, fun h2 E Q hq => ?_⟩
  · obtain ⟨d, hd, as, r⟩ := e.left v hv
    exact ⟨_, dataKind_some hal hd r⟩
  · intro E x y a b Q ha hb hq
    obtain ⟨d, as, hd, ra, rfl⟩ := dataKind_inv ha
    obtain ⟨d', as', hd', rb, rfl⟩ := dataKind_inv hb
    obtain ⟨xs, rfl⟩ := hk.2 d hd
    obtain ⟨ys, rfl⟩ := hk.2 d' hd'
    rw [keyLt'_oneType]
    exact th_oneLt_tup ra rb (hal _ hd _ hd') (room hd) hq
  · obtain ⟨⟨r, rfl⟩, ht⟩ := hk
    obtain ⟨fs, h1, h3⟩ := th_tupFirst e ht
    obtain ⟨fs', rfl⟩ := h3 r rfl
    cases e with
    | cons _ _ => exact th_kind0 h1 hq
theorem th_sorted_data {β : Type} {enc : β → PyData} {R : Value → β → Prop} {vs : List Value} {bs : List β} {l : Addr} {Q : Value → Shared → Prop} (hl : s.heap.IsList l vs.toArray) (e : EachIs R vs bs) (er : EachIs (fun v b => ∃ as, Reads s.heap v (enc b) as) vs bs) (hal : AllAlike (bs.map enc))
    (hk : Sortable (bs.map enc) ∨ Sortable0 (bs.map enc)) (hL : bs.length ≤ sizeLine)
    (hu : ∀ b, b ∈ bs → A.units + 2 + (enc b).depth < cLine) (h : ∀ out, out.length = bs.length → EachIs R out (bs.mergeSort (dataLe false enc)) → Q (.ref (s.heap.objs.size + 1)) { s with heap := sortedAll s.heap vs (List.toArray out) }) :
    wpAny (model prog w) A (call (.builtin "sorted") [.ref l]) Q E s := by
  have er' : EachIs (fun v b => ∃ as, Reads (sortingHeap (copyHeap s.heap vs) (s.heap.objs.size + 1) vs) v (enc b) as) vs bs := er.mono fun _ _ ⟨as, r⟩ => ⟨as, PyProof.Rows.Reads.keeps (fun _ _ => sorting_copy_old) r⟩
  have em := each_map (R := fun v d => ∃ as, Reads (sortingHeap (copyHeap s.heap vs) (s.heap.objs.size + 1) vs) v d as) enc er'
  refine sorted_vals hl (κ := dataKind (sortingHeap (copyHeap s.heap vs) (s.heap.objs.size + 1) vs) (bs.map enc)) ?_ (by rw [e.length]; exact hL)
    (h _ (by rw [sortVals_length false rfl]; exact e.length) (sortVals_data false e er' hal))
  rcases hk with hk | hk
  · exact SortsAt.data (s := { s with heap := sortingHeap (copyHeap s.heap vs) (s.heap.objs.size + 1) vs }) em hal hk (bound_map hu)
  · exact th_SortsAt0 (s := { s with heap := sortingHeap (copyHeap s.heap vs) (s.heap.objs.size + 1) vs }) em hal hk (bound_map hu)
theorem th_list_sort_data {β : Type} {enc : β → PyData} {R : Value → β → Prop} {vs : List Value} {bs : List β} {a : Addr} {n : Nat} {Q : Value → Shared → Prop} (ho : s.heap.get? a = some (seqObj "list" vs.toArray n)) (e : EachIs R vs bs) (er : EachIs (fun v b => ∃ as, Reads s.heap v (enc b) as ∧ a ∉ as) vs bs) (hal : AllAlike (bs.map enc)) (hk : Sortable (bs.map enc)) (hL : bs.length ≤ sizeLine)
    (hu : ∀ b, b ∈ bs → A.units + 1 + (enc b).depth < cLine) (h : ∀ out, out.length = bs.length → EachIs R out (bs.mergeSort (dataLe false enc)) → Q .none { s with heap := sortedHeap s.heap a vs (List.toArray out) }) :
    wpAny (model prog w) A (call (.builtin "list.sort") [.ref a]) Q E s := list_sort_data ho e er hal hk hL hu h
end
end PySem.W
set_option maxRecDepth 100000
set_option maxHeartbeats 4000000
/-! ### sorted over the tracked heap: of data, of a set of tuples of ints -/
namespace L2
open PySem PySem.Spec PyProof.Rows PySem.W
def leZ : V × PyData → V × PyData → Bool := dataLe false fun z : V × PyData => z.2
def rSortD (K : PySem.W.Frag) : List V → Hp → VK → Prop := fun vs H Q => ∃ (a : Addr) (zs : List (V × PyData)), vs = [V.ref a] ∧ SqL K H a (zs.map (·.1)) ∧ (∀ z ∈ zs, Dp K H z.1 z.2 ∧ z.2.depth ≤ 20) ∧ AllAlike (zs.map (·.2)) ∧
  (Sortable (zs.map (·.2)) ∨ Sortable0 (zs.map (·.2))) ∧ ∀ p, H p = none → Q (.ref p) (upd H p (.lst ((zs.mergeSort leZ).map (·.1))))
theorem each_of_vals : ∀ {zs : List (V × PyData)} {us : List Value}, Vals (zs.map (·.1)) us → EachIs (fun v (z : V × PyData) => RelV z.1 v) us zs
  | [], _, .nil => .nil
  | z :: zs, _, .cons r t => .cons r (each_of_vals t)
theorem vals_of_each : ∀ {zs : List (V × PyData)} {us : List Value}, EachIs (fun v (z : V × PyData) => RelV z.1 v) us zs → Vals (zs.map (·.1)) us
  | [], _, .nil => .nil
  | z :: zs, _, .cons r t => .cons r (vals_of_each t)
theorem cr_sortedD {X : Cx} (hu : X.A.units + 64 < cLine) : CallR X (.builtin "sorted") (rSortD X.K) := by
  intro pins s σ H vs us Q I r h
  obtain ⟨a, zs, rfl, hl, hz, hal, hk, q⟩ := h
  obtain ⟨its, rv, pl, hsz⟩ := I.list hl
  rw [Vals.ref1 r]
  have e := each_of_vals rv
  have er : EachIs (fun v (z : V × PyData) => ∃ as, Reads s.heap v z.2 as) its zs := (each_mem e).mono fun v z ⟨hr, hm⟩ => Dp.reads I _ _ _ (hz z hm).1 hr
  refine th_sorted_data (enc := fun z : V × PyData => z.2) pl.isList e er hal hk (by rw [List.length_map] at hsz; exact hsz) (fun z hm => ?_) fun out ho eo => ?_
  · have := (hz z hm).2
    omega
  · obtain ⟨ep, he'⟩ := PyProof.Rows.sortedAll_at s.heap its out.toArray
    have hlen : ((zs.mergeSort leZ).map (·.1)).length ≤ sizeLine := by
      rw [List.length_map, List.length_mergeSort]
      rw [List.length_map] at hsz
      exact hsz
    exact ⟨.ref _, upd H (s.heap.objs.size + 1) (.lst ((zs.mergeSort leZ).map (·.1))), I.laid (t' := s.toks) (fun _ _ => PyProof.Rows.sortedAll_old) (Nat.le_succ _) ⟨hlen, out, ep, vals_of_each eo, he'⟩, rfl, q _ (I.hok.fresh (Nat.le_succ _))⟩
/-- a tuple of ints, read -/
theorem reads_ints {h : Heap} : ∀ {vs : List Value} {ns : List Int}, IntsAre vs ns → ReadsAll h vs (ns.map PyData.int) []
  | _, _, .nil => .nil
  | _, _, .cons n t r => .cons (.int n t) (reads_ints r)
theorem reads_tupInts {h : Heap} {v : Value} {ns : List Int} (x : TS.TupInts h v ns) : Reads h v (.tuple (ns.map PyData.int)) [] := by
  obtain ⟨b, its, rfl, ⟨o, ho, hc, n, hd⟩, hi⟩ := x
  exact .tuple ho hc hd (reads_ints hi)
section
variable {P : Program} {w : World} {A : Around} {E : Value → Shared → Prop} {s : Shared}
theorem th_sorted_set {a : Addr} {L : List (Addr × List Int)} {es : Array (Int × Value)} {ep : Nat} {t : SetTable} {Q : Value → Shared → Prop} (R : SetTR P w s.heap a L es ep t) (hh : A.handled = none)
    (hB : ∀ p ∈ L, p.2 ≠ []) (hu : A.units + 64 < cLine)
    (hQ : ∀ s' p (out : Array Value) (c : Nat) (L' : List (Addr × List Int)), (∀ b o, s.heap.get? b = some o → s'.heap.get? b = some o) → s'.gens = s.gens → s'.os = s.os → s.heap.objs.size ≤ p →
      s'.heap.get? p = some (seqObj "list" out c) → out.toList = L'.map (fun q => Value.ref q.1) → L'.Perm L → Q (.ref p) s') :
    wpAny (model P w) A (call (.builtin "sorted") [.ref a]) Q E s := by
  obtain ⟨o, ho, hex, hd⟩ := R.ob
  have hsz := R.size
  have hfew := R.few
  refine Calls.call_function_entry kind_sorted plain_sorted entry_sorted (args_sorted1 _) ?_
  unfold Builtin.«sorted»
  refine wpAny_bind (m := checkCount "sorted" 1 1 _) (wpAny_pure ?_)
  refine wpAny_bind (collect_set (A := A.in1) hh ⟨o, ho, hex.1, hd⟩ R.fits (by unfold scanBound; omega) R.tab.ris R.led fun s1 vs k1 hz g1 o1 pm => ?_)
  have hes : es.toList.map (·.2) = L.map fun q => Value.ref q.1 := by
    rw [R.rows]
    unfold rowsOf
    rw [List.map_map] <;> rfl
  rw [hes] at pm
  have ord : ∀ vs : List Value, (∀ v ∈ vs, ∃ q ∈ L, v = Value.ref q.1) → ∃ L1 : List (Addr × List Int), vs = L1.map (fun q => Value.ref q.1) ∧ ∀ q ∈ L1, q ∈ L := by
    intro vs
    induction vs with
    | nil => intro _; exact ⟨[], rfl, fun q hq => (by cases hq)⟩
    | cons v vs ih =>
      intro hv
      obtain ⟨q, hq, e⟩ := hv v List.mem_cons_self
      obtain ⟨L1, e1, hs⟩ := ih fun u hu => hv u (List.mem_cons_of_mem _ hu)
      refine ⟨q :: L1, by rw [List.map_cons, e, e1], fun r hr => ?_⟩
      rcases List.mem_cons.mp hr with z | z
      · rw [z]; exact hq
      · exact hs r z
  have one : ∀ q ∈ L, ∀ r ∈ L, q.1 = r.1 → q = r := fun q hq r hr e => by
    have a1 := R.tup q hq
    have a2 := R.tup r hr
    rw [e] at a1
    have e2 : q.2 = r.2 := a1.inj a2
    exact Prod.ext e e2
  have perm_of : ∀ L1 : List (Addr × List Int), (∀ q ∈ L1, q ∈ L) → (L1.map (fun q => Value.ref q.1)).Perm (L.map fun q => Value.ref q.1) → L1.Perm L := by
    intro L1 hs pm1
    have nL : L.Nodup := nodup_of_map R.nd
    have nref : (L.map fun q => Value.ref q.1).Nodup := by
      refine List.pairwise_map.mpr (List.Pairwise.imp_of_mem (fun {q r} hq hr hne e => ?_) nL)
      injection e with e
      exact hne (one q hq r hr e)
    have n1 : L1.Nodup := nodup_of_map (pm1.nodup_iff.mpr nref)
    refine (List.perm_ext_iff_of_nodup n1 nL).mpr fun q => ⟨hs q, fun hq => ?_⟩
    have hm : Value.ref q.1 ∈ L1.map (fun q => Value.ref q.1) := pm1.mem_iff.mpr (List.mem_map.mpr ⟨q, hq, rfl⟩)
    obtain ⟨r, hr, e⟩ := List.mem_map.mp hm
    injection e with e
    rw [← one r (hs r hr) q hq e]
    exact hr
  obtain ⟨L1, e1, hs1⟩ := ord vs fun v hv => by
    obtain ⟨q, hq, e⟩ := List.mem_map.mp (pm.mem_iff.mp hv)
    exact ⟨q, hq, e.symm⟩
  have pm1 := pm
  rw [e1] at pm1
  have pL1 := perm_of L1 hs1 pm1
  have hvl : vs.length < 64 := by rw [pm.length_eq, List.length_map]; exact hfew
  have hL1 : L1.length < 64 := by rw [pL1.length_eq]; exact hfew
  refine wpAny_bind (wpAny_newList ?_ (by rw [sizeLine_eq]; omega))
  have hoL : (s1.heap.push (seqObj "list" vs.toArray 0)).get? s1.heap.objs.size = some (seqObj "list" vs.toArray 0) := Heap.get?_push_size _ rfl
  have tk : ∀ q ∈ L, TS.TupInts (s1.heap.push (seqObj "list" vs.toArray 0)) (.ref q.1) q.2 := fun q hq => tupInts_of (P := P) (w := w) (isT_keep (R.tup q hq) fun b u e => Heap.get?_push_of_some _ (k1 b u e))
  have eR : EachIs (fun v (q : Addr × List Int) => v = Value.ref q.1) vs L1 := by
    rw [e1]
    clear e1 pm1 pL1 hs1 hL1
    induction L1 with
    | nil => exact .nil
    | cons q L1 ih => exact .cons rfl ih
  have er : EachIs (fun v (q : Addr × List Int) => ∃ as, Reads (s1.heap.push (seqObj "list" vs.toArray 0)) v (.tuple (q.2.map PyData.int)) as ∧ s1.heap.objs.size ∉ as) vs L1 := (each_mem eR).mono fun v q ⟨e, hm⟩ => by
    rw [e]
    exact ⟨[], reads_tupInts (tk q (hs1 q hm)), fun h => nomatch h⟩
  refine wpAny_bind (wpAny_holding (th_list_sort_data (s := { s1 with heap := s1.heap.push (seqObj "list" vs.toArray 0) }) (enc := fun q : Addr × List Int => .tuple (q.2.map PyData.int)) hoL eR er
    (AllAlike.of fun x y => by rw [alike]; exact alike_ints _ _) (.inl fun d hd => ?_) (by rw [sizeLine_eq]; omega) (fun q hq => ?_) fun out a1 a2 => ?_))
  · obtain ⟨q, hq, rfl⟩ := List.mem_map.mp hd
    have := hB q (hs1 q hq)
    cases hq2 : q.2 with
    | nil => exact absurd hq2 this
    | cons x r => exact ⟨.int x, r.map PyData.int, by rw [List.map_cons]⟩
  · have hd : (PyData.tuple (q.2.map PyData.int)).depth = 1 := by
      rw [PyData.depth, depth_ints]
    rw [hd]
    show A.units + 1 + 1 + 1 < cLine
    omega
  obtain ⟨c, hc⟩ := sortedHeap_at (vs := vs) (out := out.toArray) hoL
  have e' : out = (L1.mergeSort (dataLe false fun q : Addr × List Int => .tuple (q.2.map PyData.int))).map fun q => Value.ref q.1 := by
    generalize L1.mergeSort (dataLe false fun q : Addr × List Int => .tuple (q.2.map PyData.int)) = M at a2
    clear a1 hc
    induction a2 with
    | nil => rfl
    | cons h _ ih => rw [h, ih, List.map_cons]
  refine wpAny_pure ⟨_, rfl, hQ _ s1.heap.objs.size out.toArray c (L1.mergeSort (dataLe false fun q : Addr × List Int => .tuple (q.2.map PyData.int))) (fun b u e => ?_) g1 o1 hz hc e' ((List.mergeSort_perm _ _).trans pL1)⟩
  have q := k1 b u e
  have hlt := Heap.lt_size q
  show (sortedHeap (s1.heap.push (seqObj "list" vs.toArray 0)) s1.heap.objs.size vs out.toArray).get? b = some u
  rw [sortedHeap_old (Nat.ne_of_lt hlt) (by rw [size_push']; exact Nat.lt_succ_of_lt hlt)]
  exact Heap.get?_push_of_some _ q
end
def rSortSetD (K : PySem.W.Frag) (P : Program) (w : World) : List V → Hp → VK → Prop := fun vs H Q => ∃ (a : Addr) (L : List (Addr × List Int)), vs = [V.ref a] ∧ H a = some (SetTO P w a L) ∧ (∀ p ∈ L, SqT K H p.1 (p.2.map V.int)) ∧ (∀ p ∈ L, p.2 ≠ []) ∧
  ∀ (L' : List (Addr × List Int)) (p : Addr), L'.Perm L → (L'.map (·.2)).Nodup → L'.length < 64 → H p = none → Q (.ref p) (upd H p (.lst (L'.map fun q => V.ref q.1)))
theorem cr_sortedSetD {X : Cx} (hc : X.calm = true) (hu : X.A.units + 64 < cLine) : CallR X (.builtin "sorted") (rSortSetD X.K X.prog X.w) := by
  intro pins s σ H vs us Q I r h
  obtain ⟨a, L, rfl, ha, hk, hB, q⟩ := h
  have R0 : SetT0 X.prog X.w s.heap a L := (I.hok a _ ha).1
  obtain ⟨es, ep, t, R⟩ := R0.full fun p hp => I.isT (hk p hp)
  rw [Vals.ref1 r]
  refine th_sorted_set R (I.ok.hd hc) hB hu fun s' p out c L' k g o hp hg hout pm => ?_
  have hfew : L'.length < 64 := by rw [pm.length_eq]; exact R.few
  have hlen : (L'.map fun q => V.ref q.1).length ≤ sizeLine := by rw [List.length_map, sizeLine_eq]; omega
  have hn : H p = none := I.hok.fresh hp
  have hv : Vals (L'.map fun q => V.ref q.1) out.toList := by rw [hout]; exact vals_of_refs L'
  have J : Inv X pins σ (upd H p (.lst (L'.map fun q => V.ref q.1))) { s with heap := s'.heap, gens := s'.gens, drawn := s'.drawn, toks := s'.toks } :=
    I.call (ch := []) (Un.laid k hp hn) (I.hok.laid k hp ⟨hlen, out.toList, c, hv, hg⟩) (by rw [g]; exact I.bare) (fun _ z => nomatch z)
  have e : s' = { s with heap := s'.heap, gens := s'.gens, drawn := s'.drawn, toks := s'.toks } := by
    cases s'
    cases s
    cases o
    rfl
  rw [e]
  exact ⟨.ref p, _, J, rfl, q L' p pm ((pm.map (·.2)).nodup_iff.mpr R.nd) hfew hn⟩
end L2
set_option maxRecDepth 100000
set_option maxHeartbeats 4000000
/-! ### len(set(xs)), whole numbers, perhaps some twice -/
namespace L2
open PySem PySem.Spec PyProof.Rows
theorem firstMet_nd (val : Nat → Int) : ∀ i, (firstMet val i).Nodup
  | 0 => List.nodup_nil
  | i + 1 => by
    rw [firstMet_succ]
    unfold step_dedup
    split
    · exact firstMet_nd val i
    · rename_i h
      refine List.nodup_append.mpr ⟨firstMet_nd val i, by simp, fun a ha b hb e => h ?_⟩
      rw [List.mem_singleton.mp hb] at e
      exact List.any_eq_true.mpr ⟨a, ha, by rw [e]; exact beq_self_eq_true _⟩
theorem firstMet_mem (ns : List Int) (a : Int) : a ∈ firstMet (fun i => ns.getD i 0) ns.length ↔ a ∈ ns := by
  have h := firstMet_any (fun i => ns.getD i 0) ns.length a
  have e : (List.range ns.length).map (fun i => ns.getD i 0) = ns := by
    refine List.ext_getElem? fun i => ?_
    rw [List.getElem?_map]
    by_cases hi : i < ns.length
    · rw [List.getElem?_range hi, List.getElem?_eq_getElem hi]
      show some (ns.getD i 0) = _
      rw [List.getD_eq_getElem?_getD, List.getElem?_eq_getElem hi]
      rfl
    · rw [List.getElem?_eq_none (by rw [List.length_range]; omega), List.getElem?_eq_none (by omega)]
      rfl
  rw [e] at h
  have key : ∀ l : List Int, l.any (· == a) = true ↔ a ∈ l := fun l => by
    rw [List.any_eq_true]
    exact ⟨fun ⟨x, hx, e⟩ => by rw [← beq_iff_eq.mp e]; exact hx, fun h => ⟨a, h, beq_self_eq_true _⟩⟩
  rw [← key, ← key, h]
section
variable {X : Cx}
def tLenSetN (K : PySem.W.Frag) (ta : TE) : TE := fun σ H Q => ta σ H fun x H1 => ∃ (l : Addr) (ns : List Int), x = V.ref l ∧ SqL K H1 l (ns.map V.int) ∧ ns.length < 64 ∧ ∀ us : List Int, us.Nodup → (∀ a, a ∈ us ↔ a ∈ ns) → Q (.int us.length) H1
theorem pe_lenSetN {a : Expr} {ta : TE} {p p2 q pos : Pos} (hc : X.calm = true) (hg : Gl X "len") (hm : X.mg "len" = none) (hg2 : Gl X "set") (hm2 : X.mg "set" = none) (ha : PE X a ta)
    (na : starEach [a] X.env = (false, eval a X.env) :: starEach [] X.env := by rfl) : PE X (.Call (.Name "len" p) [.Call (.Name "set" p2) [a] [] q] [] pos) (tLenSetN X.K ta) := by
  refine ⟨fun pins s σ H Q I h => ?_⟩
  refine Call_ (ld_blt I hg hm PySem.boot_len ?_)
  refine PyProof.Rows.callWith_builtin1 (PyProof.Rows.args_cons ?_ rfl) rfl rfl
  refine Call_ (ld_blt I hg2 hm2 PyProof.Rows.boot_set ?_)
  refine PyProof.Rows.callWith_type1 (PyProof.Rows.args_cons (thn (ha.run pins s σ H _ I h) fun v s1 ⟨x, H1, I1, r1, q1⟩ => PyProof.Rows.args_nil ?_) na) na rfl
  obtain ⟨l, ns, rfl, hq, h1, q1⟩ := q1
  cases r1
  obtain ⟨its, r, pl, hz⟩ := I1.list hq
  have hl : its.toArray.size = ns.length := by rw [List.size_toArray, ← r.length, List.length_map]
  have hle := firstMet_length_le (fun i => ns.getD i 0) ns.length
  refine call_set_list (I1.ok.hd hc) pl.isList (ns := ns) (by simpa using r.ints) (by unfold scanBound; omega) fun h' tk hS hk => ?_
  rw [hl] at hS
  refine PyProof.Rows.args_nil ?_
  obtain ⟨o, es, ep, t, ho, hex, hd, _, _, _, hf, hn⟩ := hS
  have I2 : Inv X pins σ H1 { s1 with heap := h', toks := tk } := I1.kept fun b o e => hk b o (Heap.lt_size e) e
  exact call_len_set ho hex hd hf (by rw [hn] <;> omega) ⟨.int (firstMet (fun i => ns.getD i 0) ns.length).length, H1, I2.tok _, ⟨_, by rw [hn]⟩, q1 _ (firstMet_nd _ _) (firstMet_mem ns)⟩
end
end L2
namespace TH
open PySem L2 Evl
/-! ### dicts by whole numbers -/
abbrev kN (m : Nat) : Key := Sum.inl (m : Int)
def FunD (H : Hp) (a : Addr) (ms : List Nat) (F : Nat → Nat) : Prop := ∃ kvs, H a = some (.dK kvs) ∧ ∀ m ∈ ms, valV kvs (kN m) = some (.int (F m : Int))
theorem FunD.ex {H H' : Hp} {a : Addr} {ms : List Nat} {F : Nat → Nat} (h : FunD H a ms F) (e : Ex H H') : FunD H' a ms F := by
  obtain ⟨kvs, h1, h2⟩ := h
  exact ⟨kvs, e _ _ h1, h2⟩
theorem FunD.of_eq {H : Hp} {a : Addr} {ms : List Nat} {F G : Nat → Nat} (h : FunD H a ms F) (e : ∀ m ∈ ms, F m = G m) : FunD H a ms G := by
  obtain ⟨kvs, h1, h2⟩ := h
  exact ⟨kvs, h1, fun m hm => by rw [h2 m hm, e m hm]⟩
theorem merge_fun {f : Key → V} {k : Key} : ∀ {kvs acc : List (Key × V)}, (∀ q ∈ kvs, q.2 = f q.1) → ((∃ q ∈ kvs, q.1 = k) ∨ valV acc k = some (f k)) → valV (mergeK acc kvs) k = some (f k)
  | [], acc, _, h => h.elim (fun ⟨q, hq, _⟩ => nomatch hq) id
  | q :: kvs, acc, hf, h => by
    show valV (mergeK (putK acc q.1 q.2) kvs) k = some (f k)
    refine merge_fun (fun p hp => hf p (List.mem_cons_of_mem _ hp)) ?_
    by_cases e : k = q.1
    · refine .inr ?_
      rw [valV_put, if_pos e, hf q List.mem_cons_self, e]
    · rcases h with ⟨p, hp, ep⟩ | h
      · rcases List.mem_cons.mp hp with rfl | hp
        · exact absurd ep.symm e
        · exact .inl ⟨p, hp, ep⟩
      · refine .inr ?_
        rw [valV_put, if_neg e]
        exact h
def pairN (F : Nat → Nat) (m : Nat) : PyData := .tuple [.int (m : Int), .int (F m : Int)]
def rDictN (K : PySem.W.Frag) : List V → Hp → VK → Prop := fun xs H Q => ∃ (a : Addr) (ps : List Addr) (kvs : List (Key × V)), xs = [.ref a] ∧ SqL K H a (ps.map V.ref) ∧ Paired (fun p kv => SqT K H p [kV kv.1, kv.2]) ps kvs ∧
    ∀ p, H p = none → Q (.ref p) (upd H p (.dK (mergeK [] kvs)))
theorem pairsN_of {K : PySem.W.Frag} {M : Addr → Prop} {H : Hp} {F : Nat → Nat} : ∀ {ms : List Nat} {xs : List V}, Dts K M H xs (ms.map (pairN F)) →
    ∃ ps : List Addr, xs = ps.map V.ref ∧ Paired (fun p (kv : Key × V) => SqT K H p [kV kv.1, kv.2]) ps (ms.map fun m => (kN m, V.int (F m : Int)))
  | [], _, .nil => ⟨[], rfl, .nil⟩
  | m :: ms, _, .cons h t => by
    obtain ⟨ps, rfl, h1⟩ := pairsN_of t
    cases h with
    | tup g1 g2 =>
    rename_i a xs0
    cases g2 with
    | cons r1 g2 =>
    cases r1
    cases g2 with
    | cons r2 g2 =>
    cases r2
    cases g2
    exact ⟨a :: ps, rfl, .cons (SqT.of g1) h1⟩
section
variable {K : PySem.W.Frag} {M M' : Addr → Prop} {H H1 H' : Hp} {σ : L2.St} {ta tb te tc tl ty : TE} {tt : TT} {g : TG} {vs : List Nat} {tr : TA} {D : Ends} {tz tu : TS} {E : XK} {S : List Sg} {R : Pl} {P : Program} {w : World}
theorem q_asgFun {i : Nat} {ms : List Nat} {F : Nat → Nat} (h : EvNew K M te σ H (· = ms.map (pairN F))) (k : ∀ kd H1, H kd = none → Ex H H1 → FunD H1 kd ms F → tz D (σ.set i (some (.ref kd))) H1) :
    tSeq (tAsg (tCB (rDictN K) (tCons te tNil)) (gName i)) tz D σ H :=
  h H (Ex.refl H) _ fun l xs ds H2 hl e2 hl2 dxs pds => by
    subst pds
    obtain ⟨ps, rfl, h1⟩ := pairsN_of dxs
    refine ⟨l, ps, _, rfl, sq_of hl2, h1, fun p hp => k p _ (fresh_back e2 hp) (e2.trans (Ex.new hp)) ⟨_, upd_same, fun m hm => ?_⟩⟩
    refine merge_fun (f := fun k => match k with | .inl z => .int (F z.toNat : Int) | .inr _ => .non) (fun q hq => ?_) (.inl ⟨(kN m, .int (F m : Int)), List.mem_map.mpr ⟨m, hm, rfl⟩, rfl⟩)
    obtain ⟨n, _, rfl⟩ := List.mem_map.mp hq
    rfl
theorem evd_get {i : Nat} {a : Addr} {ms : List Nat} {F : Nat → Nat} {m : Nat} (hs : σ[i]? = some (some (.ref a))) (hf : FunD H a ms F) (hy : EvD K M ty σ H (.int (m : Int))) (hm : m ∈ ms) : EvD K M (tDGet (tVar i) ty) σ H (.int (F m : Int)) := fun H1 e Q q =>
  ⟨_, hs, hy H1 e _ fun v d H2 e2 dv pd => by
    subst pd
    cases dv
    obtain ⟨kvs, h1, h2⟩ := hf.ex (e.trans e2)
    refine ⟨a, .int (F m : Int), rfl, ?_, q _ _ H2 e2 (.int _) rfl⟩
    rw [← h2 m hm]
    exact DGet.k (k := kN m) h1⟩
theorem evd_lenSetN {ns : List Int} {n : Nat} (h : EvD K M ta σ H (.list (ns.map PyData.int))) (h64 : ns.length < 64) (hn : ∀ us : List Int, us.Nodup → (∀ a, a ∈ us ↔ a ∈ ns) → us.length = n) : EvD K M (tLenSetN K ta) σ H (.int (n : Int)) := fun H1 e Q q =>
  h H1 e _ fun v d H2 e2 dv pd => by
    subst pd
    cases dv with
    | lst h1 h2 h3 =>
      have ew := Dts.ints ns h3
      subst ew
      refine ⟨_, ns, rfl, sq_of h1, h64, fun us nd mem => ?_⟩
      have := q (.int (n : Int)) _ H2 e2 (.int _) rfl
      rw [← hn us nd mem] at this
      exact this
/-! ### sorted(set(rows)), rows of whole numbers -/
theorem dts_pickN : ∀ {ts : List (List Nat)} {xs : List V}, Dts K M H xs (ts.map kD) → ∃ ks : List (Addr × List Int), xs = ks.map (fun p => V.ref p.1) ∧ ks.map (·.2) = ts.map ofN ∧ ∀ p ∈ ks, H p.1 = some (.tup (p.2.map V.int))
  | [], _, .nil => ⟨[], rfl, rfl, fun p h => nomatch h⟩
  | t :: ts, _, .cons h r => by
    obtain ⟨ks, h1, h2, h3⟩ := dts_pickN r
    obtain ⟨a, rfl, ha⟩ := dt_tupS h
    refine ⟨(a, ofN t) :: ks, by rw [h1]; rfl, by rw [List.map_cons, h2]; rfl, fun p hp => ?_⟩
    rcases List.mem_cons.mp hp with rfl | hp
    · exact ha
    · exact h3 p hp
theorem rows_of_keysN {ts : List (List Nat)} : ∀ {L : List (Addr × List Int)}, (∀ p ∈ L, H p.1 = some (.tup (p.2.map V.int))) → (∀ p ∈ L, ∃ t ∈ ts, p.2 = ofN t) → ∃ us : List (List Nat), L.map (·.2) = us.map ofN ∧ (∀ u ∈ us, u ∈ ts) ∧ Dts K M H (L.map fun p => V.ref p.1) (us.map kD)
  | [], _, _ => ⟨[], rfl, (fun u h => nomatch h), .nil⟩
  | p :: L, h, hh => by
    obtain ⟨us, h1, h2, h3⟩ := rows_of_keysN (fun q hq => h q (List.mem_cons_of_mem _ hq)) fun q hq => hh q (List.mem_cons_of_mem _ hq)
    obtain ⟨t, ht, e⟩ := hh p List.mem_cons_self
    have hp := h p List.mem_cons_self
    rw [e] at hp
    refine ⟨t :: us, by rw [List.map_cons, List.map_cons, h1, e], fun u hu => ?_, .cons (dt_of_tup hp) h3⟩
    rcases List.mem_cons.mp hu with rfl | hu
    · exact ht
    · exact h2 u hu
theorem ofN_inj : ∀ {a b : List Nat}, ofN a = ofN b → a = b
  | [], [], _ => rfl
  | [], b :: bs, h => by cases h
  | a :: as, [], h => by cases h
  | a :: as, b :: bs, h => by
    injection h with h1 h2
    have h1 : (a : Int) = (b : Int) := h1
    rw [ofN_inj (a := as) (b := bs) h2, show a = b by omega]
theorem evn_sortedsetN {ts : List (List Nat)} (ho : ∀ t ∈ ts, t ≠ []) (h64 : ts.length < 64) (h : EvD K M te σ H (.list (ts.map kD))) :
    EvNew K M (tCB (L2.rSortSetD K P w) (tCons (tCB (L2.rSetOfT K P w) (tCons te tNil)) tNil)) σ H (fun ds => ∃ us : List (List Nat), ds = us.map kD ∧ us.Nodup ∧ (∀ u, u ∈ us ↔ u ∈ ts) ∧ us.length < 64) := fun H1 e Q q =>
  h H1 e _ fun v d H2 e2 dv pd => by
    subst pd
    cases dv with
    | lst h1 h2 h3 =>
      rename_i a xs
      obtain ⟨ks, k1, k2, k3⟩ := dts_pickN h3
      subst k1
      have kl : ks.length = ts.length := by
        have := congrArg List.length k2
        rw [List.length_map, List.length_map] at this
        exact this
      refine ⟨a, ks, rfl, sq_of h1, fun p hp => SqT.of (k3 p hp), by omega, fun c L hc hL1 hL2 => ?_⟩
      have e3 : Ex H2 (upd H2 c (L2.SetTO P w c L)) := Ex.new hc
      refine ⟨c, L, rfl, upd_same, fun p hp => SqT.of (e3 _ _ (k3 p (hL1 p hp))), fun p hp => ?_, fun L' l pm nd hl64 hl => ?_⟩
      · have : p.2 ∈ ks.map (·.2) := List.mem_map.mpr ⟨p, hL1 p hp, rfl⟩
        rw [k2] at this
        obtain ⟨t, ht, e⟩ := List.mem_map.mp this
        rw [← e]
        intro z
        have h1 := congrArg List.length z
        rw [ofN_len] at h1
        exact ho t ht (List.length_eq_zero_iff.mp h1)
      · have e4 : Ex (upd H2 c (L2.SetTO P w c L)) (upd (upd H2 c (L2.SetTO P w c L)) l (.lst (L'.map fun q => V.ref q.1))) := Ex.new hl
        have mem : ∀ p ∈ L', p ∈ ks := fun p hp => hL1 p (pm.mem_iff.mp hp)
        obtain ⟨us, u1, u2, u3⟩ := rows_of_keysN (K := K) (M := M) (ts := ts) (L := L') (H := upd (upd H2 c (L2.SetTO P w c L)) l (.lst (L'.map fun q => V.ref q.1))) (fun p hp => (e3.trans e4) _ _ (k3 p (mem p hp))) fun p hp => by
          have : p.2 ∈ ks.map (·.2) := List.mem_map.mpr ⟨p, mem p hp, rfl⟩
          rw [k2] at this
          obtain ⟨t, ht, e⟩ := List.mem_map.mp this
          exact ⟨t, ht, e.symm⟩
        refine q l _ _ _ (fresh_back (e2.trans e3) hl) ((e2.trans e3).trans e4) upd_same u3 ⟨us, rfl, ?_, fun u => ⟨u2 u, fun hu => ?_⟩, ?_⟩
        · rw [u1] at nd
          exact List.Pairwise.of_map _ (fun a b hne e => hne (congrArg ofN e)) nd
        · have m1 : ofN u ∈ ks.map (·.2) := by
            rw [k2]
            exact List.mem_map.mpr ⟨u, hu, rfl⟩
          obtain ⟨p, hp, e⟩ := List.mem_map.mp m1
          have m2 := hL2 p hp
          rw [e] at m2
          have m3 : ofN u ∈ L'.map (·.2) := (pm.map (·.2)).mem_iff.mpr m2
          rw [u1] at m3
          obtain ⟨x, hx, e⟩ := List.mem_map.mp m3
          rw [← ofN_inj e]
          exact hx
        · have := congrArg List.length u1
          rw [List.length_map, List.length_map] at this
          omega
/-! ### the place of a row in a list of rows -/
theorem eqv_kD (a b : List Nat) : PyData.eqv (kD a) (kD b) = decide (a = b) := by
  unfold kD
  rw [eqv_tupI, Bool.eq_iff_iff, decide_eq_true_iff, decide_eq_true_iff]
  exact ⟨ofN_inj, fun h => by rw [h]⟩
theorem flat_kDs (us : List (List Nat)) : Flat 2 (.list (us.map kD)) := flat_list fun d hd => by
  obtain ⟨k, _, rfl⟩ := List.mem_map.mp hd
  exact flat_tupI _
theorem idxOf_before {α : Type} [BEq α] [LawfulBEq α] {a : α} : ∀ {l : List α} {m : Nat} {z : α}, m < l.idxOf a → l[m]? = some z → z ≠ a
  | b :: l, 0, z, h, e => by
    cases e
    intro q
    rw [q, List.idxOf_cons, beq_self_eq_true] at h
    exact absurd h (Nat.lt_irrefl _)
  | b :: l, m + 1, z, h, e => by
    have e : l[m]? = some z := e
    rw [List.idxOf_cons] at h
    cases hb : b == a with
    | true =>
      rw [hb] at h
      exact absurd h (Nat.not_lt_zero _)
    | false =>
      rw [hb] at h
      have h : m + 1 < l.idxOf a + 1 := h
      exact idxOf_before (Nat.lt_of_succ_lt_succ h) e
theorem evd_indexN {us : List (List Nat)} {k : List Nat} (ha : EvD K M ta σ H (.list (us.map kD))) (hb : EvD K M tb σ H (kD k)) (hk : k ∈ us) : EvD K M (tBM K "list" (rIndexD K) ta (tCons tb tNil)) σ H (.int (us.idxOf k : Nat)) := fun H1 e Q q =>
  ha H1 e _ fun v d H2 e2 dv pd => by
    subst pd
    have dv0 := dv
    cases dv with
    | lst h1 h2 h3 =>
    refine ⟨.inl ⟨rfl, _, sq_of h1⟩, hb H2 (e.trans e2) _ fun v' d' H3 e3 dv' pd' => ?_⟩
    subst pd'
    have hlt := List.idxOf_lt_length_of_mem hk
    have hget : us[us.idxOf k]? = some k := by
      rw [List.getElem?_eq_getElem hlt, List.getElem_idxOf hlt]
    refine ⟨_, v', kD k, us.map kD, us.idxOf k, kD k, rfl, rfl, (dv0.ex e3).dp, dv'.dp, (flat_kDs us).shaped (by decide), (flat_tupI _).shaped (by decide), by rw [List.getElem?_map, hget]; rfl, by rw [eqv_kD]; exact decide_eq_true rfl, fun m z' hm hz => ?_, q _ _ H3 (e2.trans e3) (.int _) rfl⟩
    rw [List.getElem?_map] at hz
    cases hu : us[m]? with
    | none =>
      rw [hu] at hz
      cases hz
    | some u =>
      rw [hu] at hz
      cases hz
      rw [eqv_kD]
      exact decide_eq_false (idxOf_before hm hu)
end
end TH
set_option maxRecDepth 100000
set_option maxHeartbeats 4000000
namespace TH
open PySem PySem.Spec PyProof.Rows L2 Evl
/-! ### {key: value for target in iter}, the keys tuples of numbers and texts -/
section
variable {X : Cx}
/-- one turn of the block: the item goes into the dict at D -/
def DictTurnT (D : Addr) (σ0 : L2.St) (vs : List Nat) (tt : TT) (tk tv : TE) (Nx : Hp → Prop) (σ2 : L2.St) (H2 : Hp) : Prop :=
  wipe σ2 vs = wipe σ0 vs ∧ tt σ2 H2 fun b H3 =>
    if b = true then tk σ2 H3 fun y H4 => tv σ2 H4 fun z H5 =>
      ∃ (kvs : List (List L2.Key × V)) (k : List L2.Key) (b : Addr), y = .ref b ∧ H5 D = some (.dT kvs) ∧ H5 b = some (.tup (k.map kV)) ∧ kvs.length < sizeLine ∧ Nx (upd H5 D (.dT (putK kvs k z)))
    else Nx H3
def tDcT (wi : TI) (g : TG) (tt : TT) (tk tv : TE) (vs : List Nat) : TE := fun σ H Q =>
  wi σ H fun J H1 => ∀ D, H1 D = none → ∃ W : Nat → Nat → Hp → Prop,
    (∃ m, W 0 m (upd H1 D (.dT []))) ∧
    ∀ i m H, W i m H → (J.stop i H ∧ Q (.ref D) H) ∨
      (J.go i H ∧ ∃ Nx : Hp → Prop, (∀ H', Nx H' → ∃ m', m' < m ∧ W (i + 1) m' H') ∧
        ∀ x H', J.yld i H x H' → g x (wipe σ vs) H' (DictTurnT D σ vs tt tk tv Nx))
/-- the item is put in, within any context -/
theorem setT_ok {Y : Cx} {pins : List (Addr × Obj)} {σ : L2.St} {G : Hp} {s : Shared} {D b : Addr} {kvs : List (List L2.Key × V)} {k : List L2.Key} {v : V} {u r : Value} {Q : Unit → Shared → Prop} {E : Value → Shared → Prop}
    (hu : Y.A.units < cLine) (I : Inv Y pins σ G s) (hD : G D = some (.dT kvs)) (hb : G b = some (.tup (k.map kV))) (room : kvs.length < sizeLine) (ru : RelV (.ref b) u) (rv : RelV v r)
    (h : ∀ s', Inv Y pins σ (upd G D (.dT (putK kvs k v))) s' → Q () s') : wpAny (model Y.prog Y.w) Y.A (dictSet D u r) Q E s := by
  cases (show u = Value.ref b from ru)
  obtain ⟨z, hd, xs, rel, dd⟩ := dt_of I.hok hD
  have l2 := length_putK kvs k v
  refine wpAny_dictSet_heap (hsz := by rw [← Paired.length rel]; exact z) hu (key_of I.hok hb) dd fun h' born same => h _ ?_
  obtain ⟨o, es, ep, ho, c1, c2, c3, _, c5⟩ := born
  refine d_write I (by rw [hD]; exact True.intro) same ⟨o, ho⟩ ⟨by omega, hd, _, (rel.put k hb rv).keeps fun c ys ec => ?_, o, es, ep, ho, c1, c2, c3, c5⟩
  rw [upd_ne (ne_of ec hD (fun z => nomatch z))]
  exact ec
theorem dT_start {G : Hp} {s : Shared} {pins : List (Addr × Obj)} {σ : L2.St} (I : Inv X pins σ G s) :
    Inv X pins σ (upd G s.heap.objs.size (.dT [])) { s with heap := s.heap.push { cls := .type "dict", data := .dict #[] } } :=
  I.laid (t' := s.toks) (fun b u q => Heap.get?_push_of_some _ q) (Nat.le_refl _) (dt_empty s.heap I.big)
theorem dcT_core {pins : List (Addr × Obj)} {s : Shared} {σ : L2.St} {G : Hp} {Q : VK} {pos' : Pos} {use : Option (Value → Sem Unit)} {Qf : Value → Shared → Prop} {kx vx tg iter : Expr} {ifs : List Expr} {scope : Scope} {own : List (Str × Nat)} {pos : Pos} {wi : TI} {g : TG} {tt : TT} {tk tv : TE}
    (hu : X.A.units < cLine) (calm : X.calm = true) (nodup : X.N.Nodup) (src : PI X tg iter wi) (blk : BlkOk X.N X.env.scope scope own)
    (ptg : ∀ (s : Shared) (G : Hp) (C : Addr) (cl : List (Str × Addr)) (fp : List Addr), PG (X.blk s G scope (compEnvC scope cl C X.env) fp) tg g)
    (pif : ∀ (s : Shared) (G : Hp) (C : Addr) (cl : List (Str × Addr)) (fp : List Addr), PTs (X.blk s G scope (compEnvC scope cl C X.env) fp) ifs tt)
    (pky : ∀ (s : Shared) (G : Hp) (C : Addr) (cl : List (Str × Addr)) (fp : List Addr), PE (X.blk s G scope (compEnvC scope cl C X.env) fp) kx tk)
    (pel : ∀ (s : Shared) (G : Hp) (C : Addr) (cl : List (Str × Addr)) (fp : List Addr), PE (X.blk s G scope (compEnvC scope cl C X.env) fp) vx tv)
    (fold : ∀ x, foldedSetIterable iter X.env x = pure x) (I : Inv X pins σ G s) (wish : tDcT wi g tt tk tv (own.map (·.2)) σ G Q)
    (post' : ∀ (D C : Addr) (s' : Shared) (m : Str → Option Value) (G' : Hp), Inv X pins σ G' s' → Q (.ref D) G' → s'.heap.Ns C m → FpOk X pins G' C → compPost (model X.prog X.w) X.A X.xe use Qf (.ref D) C (.ok .next) s') :
    wpAny (model X.prog X.w) X.A (comprehension (.DictComp kx vx [⟨tg, iter, ifs, 0⟩] scope pos) scope X.env pos' newDict false (eval iter X.env) use) Qf X.xe s := by
  have caught : ∀ y ∈ scope.names, y.2 = .free → ∃ c, X.env.cells.lookup y.1 = some c := by
    intro y hy hf
    cases blk.free y hy hf with
    | inl z => exact I.ok.has _ (.inl z)
    | inr z => exact I.ok.has _ (.inr z)
  refine wpAny_comprehension_free (use := use) rfl fold (closure_ok caught) blk.kind (fun y hy z => by rw [blk.uniq y hy, z]) ?_
  refine thn (src.run pins s σ G _ I wish) fun seqv sA hA => thn hA fun itv sB hB => ?_
  obtain ⟨it, fp, turnAt, J, GB, eit, IB, TT, stB, fpB, hq⟩ := hB
  subst eit
  refine wpAny_newObj_type (newEnv_comp ?_)
  have fresh : GB sB.heap.objs.size = none := IB.hok.fresh (Nat.le_refl _)
  have IC := dT_start IB
  revert fresh IC
  generalize eD : sB.heap.objs.size = D
  intro fresh IC
  obtain ⟨W, ⟨m0, w0⟩, steps⟩ := hq D fresh
  revert IC
  generalize eC : ({ sB with heap := sB.heap.push { cls := .type "dict", data := .dict #[] } } : Shared) = sC
  generalize eG : upd GB D (.dT []) = GC at w0
  intro IC
  have grown : ∀ b o, sB.heap.get? b = some o → sC.heap.get? b = some o := by
    intro b o q
    rw [← eC]
    exact Heap.get?_push_of_some _ q
  have small : ∀ b ∈ fp, b < sB.heap.objs.size := by
    intro b hb
    obtain ⟨o, q, _⟩ := TT.obj _ _ stB b hb
    exact Heap.lt_size q
  have fpC : ∀ b ∈ fp, FpOk X pins GC b ∧ b < sC.heap.objs.size := by
    intro b hb
    have lt := small b hb
    constructor
    · refine ⟨?_, (fpB b hb).2⟩
      rw [← eG, upd_ne (by rw [← eD]; exact Nat.ne_of_lt lt)]
      exact (fpB b hb).1
    · rw [← eC]
      show b < (sB.heap.push _).objs.size
      rw [Heap.size_push]
      exact Nat.lt_succ_of_lt lt
  have stC : turnAt 0 sC.heap := TT.keep _ _ _ stB fun b _ o q => grown b o q
  have ID := block_start IC blk nodup fpC
  have tgD := ptg sC GC sC.heap.objs.size (cellsFrom (sC.heap.objs.size + 1) scope.names (cloFrom X.env.cells scope.names [])) fp
  have ifD := pif sC GC sC.heap.objs.size (cellsFrom (sC.heap.objs.size + 1) scope.names (cloFrom X.env.cells scope.names [])) fp
  have kyD := pky sC GC sC.heap.objs.size (cellsFrom (sC.heap.objs.size + 1) scope.names (cloFrom X.env.cells scope.names [])) fp
  have elD := pel sC GC sC.heap.objs.size (cellsFrom (sC.heap.objs.size + 1) scope.names (cloFrom X.env.cells scope.names [])) fp
  have post := post' D sC.heap.objs.size
  show codeAny _ _ (.compStart (.DictComp kx vx [⟨tg, iter, ifs, 0⟩] scope pos) 0 (.ref it) (.ref D) (compEnvC scope (cellsFrom (sC.heap.objs.size + 1) scope.names (cloFrom X.env.cells scope.names [])) sC.heap.objs.size X.env))
    (compPost (model X.prog X.w) X.A X.xe use Qf (.ref D) sC.heap.objs.size) { sC with heap := pushCells (sC.heap.push { cls := .type "dict", data := .dict #[] }) scope.names }
  have none_fp : ∀ b ∈ fp, GC b = none := fun b hb => (fpC b hb).1.1
  revert ID tgD ifD kyD elD
  generalize eE : compEnvC scope (cellsFrom (sC.heap.objs.size + 1) scope.names (cloFrom X.env.cells scope.names [])) sC.heap.objs.size X.env = cenv
  have locals : cenv.locals = sC.heap.objs.size := by
    rw [← eE]
    rfl
  generalize eS : ({ sC with heap := pushCells (sC.heap.push { cls := .type "dict", data := .dict #[] }) scope.names } : Shared) = sD
  intro ID tgD ifD kyD elD
  have stD : turnAt 0 sD.heap := by
    refine TT.keep _ _ _ stC fun b _ o q => ?_
    rw [← eS]
    exact pushCells_keeps _ _ _ _ (Heap.get?_push_of_some _ q)
  have steady : ∀ {σ' : L2.St} {G' : Hp} {s' : Shared}, Inv (X.blk sC GC scope cenv fp) [] σ' G' s' → (∀ b ∈ fp, G' b = none) → ∀ b ∈ fp, FpOk (X.blk sC GC scope cenv fp) [] G' b := by
    intro σ' G' s' I' hn b hb
    refine ⟨hn b hb, (I'.ok.exf b hb).1, I'.ok.exfs b hb, .inl hb, fun x c => (I'.ok.exf b hb).2 x c, fun p hp => ?_⟩
    exact absurd (show p ∈ ([] : List (Addr × Obj)) ++ [] from hp) (by simp)
  have loop : codeAny (model X.prog X.w) X.A (.compLoop (.DictComp kx vx [⟨tg, iter, ifs, 0⟩] scope pos) 0 (.ref it) (.ref D) cenv)
      (compPost (model X.prog X.w) X.A X.xe use Qf (.ref D) sC.heap.objs.size) sD := by
    refine compLoop_anyD (fun n s' => ∃ i G', Inv (X.blk sC GC scope cenv fp) [] (wipe σ (own.map (·.2))) G' s' ∧ turnAt i s'.heap ∧ (∀ b ∈ fp, G' b = none) ∧ W i n G') ?_ m0 ⟨0, GC, ID, stD, none_fp, w0⟩
    rintro n s5 ⟨i, G5, I5, st5, n5, w5⟩
    cases steps i n G5 w5 with
    | inl done =>
      obtain ⟨stop, hq⟩ := done
      refine thnF (TT.done (X.blk sC GC scope cenv fp) rfl rfl rfl calm i [] s5 _ G5 (fun _ _ => False) I5 (steady I5 n5) st5 stop) fun r s6 ⟨hr, I6⟩ => ?_
      subst hr
      have I7 : Inv X pins σ G5 s6 := IC.call' (ch := fp) I6.os I6.base I6.hok I6.bare fun b hb =>
        ⟨(fpC b hb).1.2.2.2.1, (fpC b hb).1.2.1, (fpC b hb).1.2.2.2.2.1, (fpC b hb).1.2.2.2.2.2⟩
      have gone : G5 sC.heap.objs.size = none := by
        rw [← locals]
        exact I6.free
      obtain ⟨m, hn, _⟩ := I6.loc
      refine post s6 m G5 I7 hq ?_ (IC.fpOk (Nat.le_refl _) gone)
      rw [← locals]
      exact hn
    | inr more =>
      obtain ⟨go, Nx, hNx, step⟩ := more
      refine thnF (TT.item (X.blk sC GC scope cenv fp) rfl rfl rfl calm i [] s5 _ G5 (fun _ _ => False) I5 (steady I5 n5) st5 go) fun r s6 ⟨u, hr, h6⟩ => ?_
      subst hr
      refine thnF h6 fun _ s7 ⟨x, G7, I7, r7, y7, st7, n7⟩ => ?_
      refine thnF (tgD.run _ s7 _ G7 x u _ (I7.pinned (steady I7 n7) (TT.obj _ _ st7)) r7 (step x G7 y7)) fun _ s8 ⟨σ8, G8, I8, hw, q8⟩ => ?_
      refine thnF (ifD.run _ s8 σ8 G8 _ I8 q8) fun b s9 ⟨G9, I9, q9⟩ => ?_
      have back : ∀ {s' : Shared} {G' : Hp}, Inv (X.blk sC GC scope cenv fp) ([] ++ pinsAt fp s7.heap) σ8 G' s' → Nx G' →
          ∃ m, m < n ∧ ∃ i G', Inv (X.blk sC GC scope cenv fp) [] (wipe σ (own.map (·.2))) G' s' ∧ turnAt i s'.heap ∧ (∀ b ∈ fp, G' b = none) ∧ W i m G' := by
        intro s' G' I' nx
        obtain ⟨m', hm, w'⟩ := hNx G' nx
        have pinned : ∀ b ∈ fp, ∀ o, s7.heap.get? b = some o → s'.heap.get? b = some o ∧ G' b = none := by
          intro b hb o q
          have z := I'.pin (b, o) (List.mem_append_right _ (List.mem_append_right _ (mem_pinsAt hb q)))
          exact ⟨z.1, z.2.1⟩
        have len : (wipe σ (own.map (·.2))).length = σ8.length := by rw [← hw, wipe_length]
        refine ⟨m', hm, i + 1, G', (I'.unpinned (pins := [])).weak len ?_, TT.keep _ _ _ st7 fun b hb o q => (pinned b hb o q).1, fun b hb => ?_, w'⟩
        · intro j v q
          rw [← hw] at q
          exact (wipe_some q).1
        · obtain ⟨o, q, _⟩ := TT.obj _ _ st7 b hb
          exact (pinned b hb o q).2
      cases b with
      | false => exact back I9 q9
      | true =>
        show wpAny _ _ _ _ _ _
        refine thnF (kyD.run _ s9 σ8 G9 _ I9 q9) fun z s10 ⟨yk, G10, I10, r10, q10⟩ => ?_
        refine thnF (elD.run _ s10 σ8 G10 _ I10 q10) fun z2 s11 ⟨yv, G11, I11, r11, kvs, ks, kb, ey, hD11, hk11, room, nx⟩ => ?_
        subst ey
        exact setT_ok (Y := X.blk sC GC scope cenv fp) hu I11 hD11 hk11 room r10 r11 fun s12 I12 => back I12 nx
  exact codeAny_compStart_dict loop (TT.self X.A 0 _ _ _ stD loop)
theorem pe_dcT {kx vx tg iter : Expr} {ifs : List Expr} {scope : Scope} {own : List (Str × Nat)} {pos : Pos} {wi : TI} {g : TG} {tt : TT} {tk tv : TE}
    (hu : X.A.units < cLine) (calm : X.calm = true) (nodup : X.N.Nodup) (src : PI X tg iter wi) (blk : BlkOk X.N X.env.scope scope own)
    (ptg : ∀ (s : Shared) (G : Hp) (C : Addr) (cl : List (Str × Addr)) (fp : List Addr), PG (X.blk s G scope (compEnvC scope cl C X.env) fp) tg g)
    (pif : ∀ (s : Shared) (G : Hp) (C : Addr) (cl : List (Str × Addr)) (fp : List Addr), PTs (X.blk s G scope (compEnvC scope cl C X.env) fp) ifs tt)
    (pky : ∀ (s : Shared) (G : Hp) (C : Addr) (cl : List (Str × Addr)) (fp : List Addr), PE (X.blk s G scope (compEnvC scope cl C X.env) fp) kx tk)
    (pel : ∀ (s : Shared) (G : Hp) (C : Addr) (cl : List (Str × Addr)) (fp : List Addr), PE (X.blk s G scope (compEnvC scope cl C X.env) fp) vx tv)
    (fold : ∀ x, foldedSetIterable iter X.env x = pure x := by intro _; rfl) :
    PE X (.DictComp kx vx [⟨tg, iter, ifs, 0⟩] scope pos) (tDcT wi g tt tk tv (own.map (·.2))) := by
  refine ⟨fun pins s σ G Q I wish => ?_⟩
  rw [arm_eval_DictComp]
  refine dcT_core (use := none) (Qf := EP X pins σ Q) hu calm nodup src blk ptg pif pky pel fold I wish fun D C s' m G' I' q hn hf => ⟨m, hn, fun h'' same => ?_⟩
  obtain ⟨f0, f1, f2, f3, f4, f5⟩ := hf
  exact ⟨.ref D, G', I'.turned (t' := s'.toks) (fun b o hb z => (same.2 b hb).trans z) f0 f1 f3 f4 f5, rfl, q⟩
/-- name = {..} on one line, the name a local -/
theorem ps_setDcT {i : Nat} {y : Str} {py spos : Pos} {kx vx tg iter : Expr} {ifs : List Expr} {scope : Scope} {own : List (Str × Nat)} {pos : Pos} {wi : TI} {g : TG} {tt : TT} {tk tv : TE}
    (hu : X.A.units < cLine) (calm : X.calm = true) (nodup : X.N.Nodup) (hy : X.N[i]? = some y) (hyl : X.env.scope.names.lookup y = some .local)
    (hsw : swapsWith (.DictComp kx vx [⟨tg, iter, ifs, 0⟩] scope pos) (some (.Name y py)) spos.line X.env = pure true) (src : PI X tg iter wi) (blk : BlkOk X.N X.env.scope scope own)
    (ptg : ∀ (s : Shared) (G : Hp) (C : Addr) (cl : List (Str × Addr)) (fp : List Addr), PG (X.blk s G scope (compEnvC scope cl C X.env) fp) tg g)
    (pif : ∀ (s : Shared) (G : Hp) (C : Addr) (cl : List (Str × Addr)) (fp : List Addr), PTs (X.blk s G scope (compEnvC scope cl C X.env) fp) ifs tt)
    (pky : ∀ (s : Shared) (G : Hp) (C : Addr) (cl : List (Str × Addr)) (fp : List Addr), PE (X.blk s G scope (compEnvC scope cl C X.env) fp) kx tk)
    (pel : ∀ (s : Shared) (G : Hp) (C : Addr) (cl : List (Str × Addr)) (fp : List Addr), PE (X.blk s G scope (compEnvC scope cl C X.env) fp) vx tv)
    (fold : ∀ x, foldedSetIterable iter X.env x = pure x := by intro _; rfl) :
    PS X (.Assign [.Name y py] (.DictComp kx vx [⟨tg, iter, ifs, 0⟩] scope pos) spos) (tAsg (tDcT wi g tt tk tv (own.map (·.2))) (gName i)) := by
  refine ⟨fun pins s σ G D I wish => ?_⟩
  rw [exec_Assign_Name_used _ _ _ _ hsw]
  refine wpAny_bind (wpAny_standAt (wpAny_bind ?_))
  have wish' : tDcT wi g tt tk tv (own.map (·.2)) σ G (fun x G1 => gName i x σ G1 D.nx) := wish
  refine wpAny_bind (thn (dcT_core (use := some (assign (.Name y py) X.env)) (Qf := fun _ s' => SP X pins D .next s') hu calm nodup src blk ptg pif pky pel fold I wish' fun L C s' m G' I' q hn f => ?_) fun _ s' hq => wpAny_pure (wpAny_pure hq))
  refine wpAny_assign_Name (store_ok2 (v := V.ref L) I' nodup hy (.inl hyl) rfl (fun s2 I2 ⟨a, sb, ha⟩ => ?_) (.inr hyl))
  obtain ⟨f0, f1, f2, f3, f4, f5⟩ := f
  have apart : C ≠ a := by
    cases ha with
    | inl z => rw [z]; exact f1
    | inr z => exact fun e => f4 y a z e.symm
  exact ⟨m, hn.sameBut sb apart, fun h3 sb3 => ⟨_, G', I2.turned (t' := s2.toks) (fun b o hb e => (sb3.2 b hb).trans e) f0 f1 f3 f4 f5, q⟩⟩
theorem sw_trueD {kx vx : Expr} {gs : List Comprehension} {scope : Scope} {pos py : Pos} {y : Str} {l : Nat} {env : Env} (hk : env.scope.kind = .function) (hy : env.scope.names.lookup y = some .local) (hl : (py.line == pos.line) = true)
    (ha : (scope.names.any fun (n, k) => n == y && (k == .local || k == .cell)) = false) : swapsWith (.DictComp kx vx gs scope pos) (some (.Name y py)) l env = pure true := by
  have ky : env.kindOf y = some .local := hy
  have hb : env.blockKind = .function := by
    unfold Env.blockKind
    rw [hk]
    rfl
  unfold swapsWith
  simp only [hb, ky, ha, Expr.pos, hl]
  rfl
end
end TH
set_option maxRecDepth 100000
set_option maxHeartbeats 4000000
namespace TH
open PySem PySem.Spec PyProof.Rows L2 Evl NdefX LamX
/-! ### things told of the abstract heap when some are hidden -/
/-- the object at c is just this one -/
def CellX (c : Addr) (o : Obj) : HO := .ext fun h => h.get? c = some o
section
variable {P : Program} {w : World} {K : PySem.W.Frag} {mg : Str → Option Value} {base : Heap} {A : Around} {outer : List Env} {s s' : Shared} {H H' : Hp} {h : Heap} {C : Addr → Prop} {Q : VK} {u : Value}
theorem objOk_mv : ∀ {o : HO} {a : Addr}, L2.ObjOk P w H h a o → (∀ b xs, H b = some (.tup xs) → H' b = some (.tup xs)) → (∀ b y, H b = some (.own y) → H' b = some (.own y)) → L2.ObjOk P w H' h a o
  | .lst _, _, x, _, _ => x
  | .tup _, _, x, _, _ => x
  | .dK _, _, x, _, _ => x
  | .dT _, _, x, t, _ => by
    obtain ⟨h1, h2, xs, h3, h4⟩ := x
    exact ⟨h1, h2, xs, L2.Paired.mapP h3 fun p q ⟨e1, e2, e3⟩ => ⟨e1, t _ _ e2, e3⟩, h4⟩
  | .set _ _, _, x, _, _ => x
  | .ins _ _ _, _, x, _, o => ⟨o _ _ x.1, x.2⟩
  | .own _, _, x, _, _ => x
  | .xd _, _, x, _, _ => x
  | .met _ _, _, x, _, _ => x
  | .rng _ _, _, x, _, _ => x
  | .frz _ o, _, x, t, ow => ⟨x.1, objOk_mv x.2 t ow⟩
  | .tbl _, _, x, _, _ => x
  | .ext _, _, x, _, _ => x
open Classical in
/-- all but C's -/
noncomputable def hidP (C : Addr → Prop) (H : Hp) : Hp := fun b => if C b then none else H b
open Classical in
/-- C's as they were -/
noncomputable def rehP (C : Addr → Prop) (H H' : Hp) : Hp := fun b => if C b then H b else H' b
theorem hid_of {b : Addr} (c : C b) : hidP C H b = none := by
  unfold hidP
  rw [if_pos c]
theorem hid_ne {b : Addr} (c : ¬ C b) : hidP C H b = H b := by
  unfold hidP
  rw [if_neg c]
theorem reh_of {b : Addr} (c : C b) : rehP C H H' b = H b := by
  unfold rehP
  rw [if_pos c]
theorem reh_ne {b : Addr} (c : ¬ C b) : rehP C H H' b = H' b := by
  unfold rehP
  rw [if_neg c]
theorem hid_none {b : Addr} (e : H b = none) : hidP C H b = none := by
  by_cases c : C b
  · exact hid_of c
  · rw [hid_ne c, e]
/-- what is no such object stays -/
theorem hid_some (hC : ∀ b, C b → ∃ o, H b = some (CellX b o)) {b : Addr} {o : HO} (e : H b = some o) (n : ∀ x, o ≠ CellX b x) : hidP C H b = some o := by
  by_cases c : C b
  · obtain ⟨x, hx⟩ := hC b c
    rw [e] at hx
    exact absurd (Option.some.inj hx) (n x)
  · rw [hid_ne c, e]
theorem hok_hid (hok : L2.HOk P w H h) (hC : ∀ b, C b → ∃ o, H b = some (CellX b o)) : L2.HOk P w (hidP C H) h := fun a o ha => by
  by_cases c : C a
  · rw [hid_of c] at ha
    cases ha
  · rw [hid_ne c] at ha
    exact objOk_mv (hok a o ha) (fun b xs e => hid_some hC e fun x z => by unfold CellX at z; cases z) fun b y e => hid_some hC e fun x z => by unfold CellX at z; cases z
theorem env0_hid (e : Env0 P w K mg base A outer s H) (hC : ∀ b, C b → ∃ o, H b = some (CellX b o)) : Env0 P w K mg base A outer s (hidP C H) :=
  ⟨e.frames, e.mod, fun b o h => ⟨(e.bs b o h).1, hid_none (e.bs b o h).2⟩, e.bsz, e.funs, fun b hb => hid_none (e.frf b hb), hok_hid e.hok hC, e.bare⟩
theorem ce_hid (e : Env0 P w K mg base A outer s H) (hC : ∀ b, C b → ∃ o, H b = some (CellX b o)) (h : CE outer P w (hidP C H) s (fun v H' => (∀ b, C b → H' b = none) → Q v (rehP C H H')) u s') : CE outer P w H s Q u s' := by
  obtain ⟨v, H', os, bare, un, hok, r, q⟩ := h
  have at0 : ∀ b, C b → ∃ o, H b = some (CellX b o) ∧ s.heap.get? b = some o ∧ b ∉ frs outer := fun b c => by
    obtain ⟨o, ho⟩ := hC b c
    exact ⟨o, ho, (e.hok b _ ho).1, fun z => by rw [e.frf b z] at ho; cases ho⟩
  have fre : ∀ b, C b → H' b = none := fun b c => by
    obtain ⟨o, _, h2, _⟩ := at0 b c
    exact un.free b o h2 (hid_of c) (fun z => nomatch z)
  refine ⟨v, rehP C H H', os, bare, ⟨fun b o h1 h2 h3 h4 => un.keep b o h1 (hid_none h2) h3 h4, fun b o h1 h2 h3 h4 => un.slot b o h1 (hid_none h2) h3 h4, fun b o h1 h2 h3 => ?_, un.there, fun b xs h1 => ?_, fun b o x h1 => ?_, fun b ps h1 => ?_⟩, fun b o hb => ?_, r, q fre⟩
  · by_cases c : C b
    · rw [reh_of c, h2]
    · rw [reh_ne c]
      exact un.free b o h1 (hid_none h2) h3
  · have c : ¬ C b := fun c => by
      obtain ⟨o, ho, _⟩ := at0 b c
      rw [h1] at ho
      unfold CellX at ho
      cases ho
    rw [reh_ne c]
    exact un.tups b xs (by rw [hid_ne c]; exact h1)
  · have c : ¬ C b := fun c => by
      obtain ⟨o, ho, _⟩ := at0 b c
      rw [h1] at ho
      unfold CellX at ho
      cases ho
    rw [reh_ne c]
    exact un.frzs b o x (by rw [hid_ne c]; exact h1)
  · have c : ¬ C b := fun c => by
      obtain ⟨o, ho, _⟩ := at0 b c
      rw [h1] at ho
      unfold CellX at ho
      cases ho
    rw [reh_ne c]
    exact un.tbls b ps (by rw [hid_ne c]; exact h1)
  · by_cases c : C b
    · rw [reh_of c] at hb
      obtain ⟨x, hx, h2, h3⟩ := at0 b c
      rw [hx] at hb
      cases hb
      exact ⟨un.keep b x h2 (hid_of c) h3 (fun z => nomatch z), ⟨x, un.keep b x h2 (hid_of c) h3 (fun z => nomatch z)⟩, fun h1 h2 e1 e2 => e2 x e1⟩
    · rw [reh_ne c] at hb
      have nt : ∀ b o, H' b = some o → ¬ C b := fun b o z c => by rw [fre b c] at z; cases z
      exact objOk_mv (hok b o hb) (fun b xs z => by rw [reh_ne (nt _ _ z)]; exact z) fun b y z => by rw [reh_ne (nt _ _ z)]; exact z
end
end TH
set_option maxRecDepth 100000
set_option maxHeartbeats 4000000
namespace TH
open PySem PySem.Spec PyProof.Rows L2 Evl NdefX LamX
/-! ### a function that was made by a def, as a value -/
def CapOf (F : NF) (b : Addr) : Prop := ∃ y, F.cl.lookup y = some b
/-- the function F lies at f, its captured cells are told, those of fr hold ws -/
structure CloAt (H : Hp) (f : Addr) (F : NF) (fr : List Str) (ws : List V) : Prop where
  fn : H f = some (FnO f F)
  code : H F.c = some (CodeO F.c F.qual)
  len : ws.length = fr.length
  inj : ∀ x y c, F.cl.lookup x = some c → F.cl.lookup y = some c → x = y
  cells : ∀ b, CapOf F b → ∃ o u, H b = some (CellX b o) ∧ o.data = .cell u
  has : ∀ (i : Nat) (y : Str), fr[i]? = some y → ∃ c o u v, F.cl.lookup y = some c ∧ H c = some (CellX c o) ∧ o.data = .cell (some u) ∧ ws[i]? = some v ∧ L2.RelV v u
section
variable {P : Program} {w : World} {K : PySem.W.Frag} {mg : Str → Option Value} {base : Heap} {H H' : Hp} {h : Heap} {f : Addr} {F : NF} {ps fr : List Str} {ws : List V} {k : Nat}
theorem CloAt.ex (c : CloAt H f F fr ws) (e : Ex H H') : CloAt H' f F fr ws :=
  ⟨e _ _ c.fn, e _ _ c.code, c.len, c.inj, fun b hb => by obtain ⟨o, u, h1, h2⟩ := c.cells b hb; exact ⟨o, u, e _ _ h1, h2⟩, fun i y hy => by obtain ⟨a, o, u, v, h1, h2, h3⟩ := c.has i y hy; exact ⟨a, o, u, v, h1, e _ _ h2, h3⟩⟩
theorem CloAt.hC (c : CloAt H f F fr ws) : ∀ b, CapOf F b → ∃ o, H b = some (CellX b o) := fun b hb => by
  obtain ⟨o, u, h1, _⟩ := c.cells b hb
  exact ⟨o, h1⟩
theorem CloAt.cellsAt (c : CloAt H f F fr ws) (hok : L2.HOk P w H h) : CellsAt F.cl fr (ws.map some) h (hidP (CapOf F) H) := by
  refine ⟨by rw [List.length_map, c.len], fun y b hb => ?_, c.inj, fun i y hy => ?_⟩
  · obtain ⟨o, u, h1, h2⟩ := c.cells b ⟨y, hb⟩
    exact ⟨hid_of ⟨y, hb⟩, u, o, (hok b _ h1).1, h2⟩
  · obtain ⟨b, o, u, v, h1, h2, h3, h4, h5⟩ := c.has i y hy
    refine ⟨b, h1, fun v' hv' => ⟨u, ?_, o, (hok b _ h2).1, h3⟩⟩
    rw [List.getElem?_map, h4] at hv'
    cases hv'
    exact h5
/-- what may be called: the promise goes with the address -/
def Cal (P : Program) (w : World) (K : PySem.W.Frag) (mg : Str → Option Value) (base : Heap) (k : Nat) (sp : Addr → Sp) : Prop :=
  ∀ (A : Around) (outer : List Env) (s : Shared) (H : Hp) (q : Addr) (us : List Value) (vs : List V) (Q : VK) (E : XK), Room k A → Env0 P w K mg base A outer s H → Vals vs us → sp q vs H Q E → codeAny (model P w) A (.call (.ref q) ⟨us, []⟩) (CR CX0 outer P w H s Q E) s
theorem Cal.mono {j : Nat} {sp : Addr → Sp} (c : Cal P w K mg base j sp) (h : j ≤ k) : Cal P w K mg base k sp := fun A outer s H q us vs Q E hr => c A outer s H q us vs Q E (hr.mono h)
/-- the object of a thing that may be called -/
def CalO (K : PySem.W.Frag) (q : Addr) (o : HO) : Prop := (∃ g a, o = .met g a ∧ PySem.W.fnIn K g = true) ∨ ∃ F, o = FnO q F
theorem cr_hid {A : Around} {outer : List Env} {s s' : Shared} {C : Addr → Prop} {Q : VK} {E : XK} {r : Result} (e : Env0 P w K mg base A outer s H) (hC : ∀ b, C b → ∃ o, H b = some (CellX b o)) (h : CR CX0 outer P w (hidP C H) s (fun v H' => (∀ b, C b → H' b = none) → Q v (rehP C H H')) E r s') : CR CX0 outer P w H s Q E r s' := by
  cases r with
  | error x => exact h
  | ok fl =>
    cases fl with
    | ret u => exact ce_hid e hC h
    | next => exact h
    | brk => exact h
    | cont => exact h
/-- a bound method -/
theorem cal_met {g : Addr} {sp : Sp} (Fn : FnR P w K mg base CX0 k g sp) : Cal P w K mg base k (fun q vs H Q E => ∃ a, H q = some (.met g a) ∧ sp (.ref a :: vs) H Q E) := fun A outer s H q us vs Q E hr e0 r ⟨a, hq, hs⟩ =>
  PySem.W.method_call (e0.hok q _ hq) (Fn A outer s H (.ref a :: us) (.ref a :: vs) Q E hr e0 (.cons rfl r) hs)
/-- a made function -/
def spClo (FP : NF → Prop) (fr : List Str) (sp : List (Option V) → Sp) : Addr → Sp := fun q vs H Q E => ∃ F ws, FP F ∧ CloAt H q F fr ws ∧ sp (ws.map some) vs (hidP (CapOf F) H) (fun v H' => (∀ b, CapOf F b → H' b = none) → Q v (rehP (CapOf F) H H')) E
theorem cal_clo {FP : NF → Prop} {sp : List (Option V) → Sp} (Fn : ∀ f F, FP F → NOk P w K mg base CX0 k f F ps fr sp) : Cal P w K mg base k (spClo FP fr sp) := fun A outer s H q us vs Q E hr e0 r ⟨F, ws, hF, hc, hs⟩ => by
  have e1 := env0_hid e0 hc.hC
  have n1 : hidP (CapOf F) H q = some (FnO q F) := by
    rw [hid_ne fun c => ?_, hc.fn]
    obtain ⟨o, u, h1, h2⟩ := hc.cells q c
    have h3 : s.heap.get? q = some o := (e0.hok q _ h1).1
    obtain ⟨od, sl, doc, pm, ctv, ho⟩ := fnO_at e0.hok hc.fn
    rw [ho] at h3
    cases h3
    cases h2
  have n2 : hidP (CapOf F) H F.c = some (CodeO F.c F.qual) := by
    rw [hid_ne fun c => ?_, hc.code]
    obtain ⟨o, u, h1, h2⟩ := hc.cells F.c c
    have h3 : s.heap.get? F.c = some o := (e0.hok F.c _ h1).1
    obtain ⟨⟨oc, vs, t, k1, k2, k3⟩, _, _⟩ := e0.hok F.c _ hc.code
    rw [k1] at h3
    cases h3
    rw [k2] at h2
    cases h2
  exact codeAny_mono ((Fn q F hF).run A outer s _ us vs _ _ E hr e1 n1 n2 (hc.cellsAt e0.hok) r hs) fun r s' h => cr_hid e0 hc.hC h
/-- sp q is what the caller tells of a thing that may be called, by its name -/
def tCallV (K : PySem.W.Frag) (sp : Addr → Sp) (E : XK) (tf : TE) (t : TA) : TE := fun σ H Q => tf σ H fun v H1 => ∃ q o, v = .ref q ∧ H1 q = some o ∧ CalO K q o ∧ t σ H1 fun vs H2 => H2 q = some o ∧ sp q vs H2 Q E
end
section
variable {X : Cx} {k : Nat} {x : Str} {sp : Addr → Sp} {E : XK} {e : Expr} {es : List Expr} {tf : TE} {t : TA} {pos nm : Pos}
theorem run_cal {pins : List (Addr × Obj)} {σ : L2.St} {H : Hp} {s : Shared} {q : Addr} {us : List Value} {vs : List V} {Q : VK} (Fn : Cal X.prog X.w X.K X.mg X.base k sp) (hr : Room k X.A) (I : Inv X pins σ H s) (r : Vals vs us) (h : sp q vs H Q E) : wpAny (model X.prog X.w) X.A (call (.ref q) us) (EP X pins σ Q) X.xe s := by
  refine wpAny_call (codeAny_mono (Fn X.A X.stack s H q us vs Q E hr I.env0 r h) fun r s' hq => ?_)
  cases r with
  | error e => exact False.elim hq
  | ok fl =>
    cases fl with
    | ret u => exact I.after hq
    | next => exact False.elim hq
    | brk => exact False.elim hq
    | cont => exact False.elim hq
/-- x(e, ..), x a name that holds a thing that may be called -/
theorem pe_callV (hf : PE X (.Name x nm) tf) (Fn : Cal X.prog X.w X.K X.mg X.base k sp) (hr : Room k X.A) (ha : PA X (e :: es) t)
    (he : starEach (e :: es) X.env = (false, eval e X.env) :: starEach es X.env := by rfl) (hpl : (backTo pos (starEach es X.env)).any (·.1) = false := by rfl) : PE X (.Call (.Name x nm) (e :: es) [] pos) (tCallV X.K sp E tf t) := by
  refine ⟨fun pins s σ H Q I h => ?_⟩
  refine wpAny_Call_Name_kw (thn (hf.run pins s σ H _ I h) fun f s0 ⟨v, H0, I0, r0, q, o, ev, ho, co, q0⟩ => ?_)
  subst ev
  obtain rfl : f = Value.ref q := r0
  rcases co with ⟨g, a, rfl, fi⟩ | ⟨F, rfl⟩
  · have z : wpAny (model X.prog X.w) X.A (spliced (backTo pos (starEach (e :: es) X.env))) (fun vs s₁ => PySem.W.MethP X.K q g (.ref a) s₁.heap ∧ wpAny (model X.prog X.w) X.A (call (.ref q) ([] ++ vs)) (EP X pins σ Q) X.xe s₁) X.xe s0 :=
      thn (ha.run pos pins s0 σ H0 _ I0 q0) fun us s1 ⟨vs, H1, I1, r1, hb, q1⟩ => ⟨met_P I1 hb, run_cal Fn hr I1 r1 q1⟩
    rw [he] at z ⊢
    exact PySem.W.callWith_of (P := PySem.W.MethP X.K q g (.ref a)) (by show ((false || (backTo pos (starEach es X.env)).any (·.1)) || false) = false; rw [hpl]; rfl) (PySem.W.keeps_M fi) (PySem.Calls.evalArgs_plain z)
  · exact PySem.W.callWith_F (first := []) (fnAt_of I0 ho) (thn (ha.run pos pins s0 σ H0 _ I0 q0) fun us s1 ⟨vs, H1, I1, r1, hb, q1⟩ => ⟨fnAt_of I1 hb, run_cal Fn hr I1 r1 q1⟩) he hpl
end
end TH
set_option maxRecDepth 100000
set_option maxHeartbeats 4000000
namespace TH
open PySem PySem.Spec PyProof.Rows L2 Evl NdefX LamX
/-! ### a def that makes a function and returns it -/
open Classical in
/-- C's objects told too, just as they are -/
noncomputable def trkP (C : Addr → Prop) (h : Heap) (H : Hp) : Hp := fun b => if C b then (h.get? b).map (CellX b) else H b
section
variable {P : Program} {w : World} {K : PySem.W.Frag} {mg : Str → Option Value} {base : Heap} {C : Addr → Prop} {H : Hp} {h : Heap}
theorem trk_of {b : Addr} (c : C b) : trkP C h H b = (h.get? b).map (CellX b) := by
  unfold trkP
  rw [if_pos c]
theorem trk_ne {b : Addr} (c : ¬ C b) : trkP C h H b = H b := by
  unfold trkP
  rw [if_neg c]
theorem trk_ex (hC : ∀ b, C b → H b = none) : Ex H (trkP C h H) := fun b o e => by
  by_cases c : C b
  · rw [hC b c] at e
    cases e
  · rw [trk_ne c, e]
theorem hok_trk (hok : L2.HOk P w H h) (hC : ∀ b, C b → H b = none) : L2.HOk P w (trkP C h H) h := fun a o ha => by
  by_cases c : C a
  · rw [trk_of c] at ha
    cases e : h.get? a with
    | none =>
      rw [e] at ha
      cases ha
    | some x =>
      rw [e] at ha
      cases ha
      exact ⟨e, ⟨x, e⟩, fun h1 h2 e1 e2 => e2 x e1⟩
  · rw [trk_ne c] at ha
    exact objOk_mv (hok a o ha) (fun b xs e => trk_ex hC _ _ e) fun b y e => trk_ex hC _ _ e
end
section
variable {X : Cx} {σ : L2.St} {H : Hp} {s : Shared} {F : NF} {fr : List Str} {js : List Nat} {ws : List V} {f : Addr} {Q : VK}
/-- the captured cells are told at the end -/
theorem clo_fin (J : Inv X [] σ H s) (cp : Caps X F.cl fr js) (cab : ∀ x c, X.env.cells.lookup x = some c → X.s_0.heap.objs.size ≤ c) (hf : H f = some (FnO f F)) (hc : H F.c = some (CodeO F.c F.qual)) (hws : js.map (slotAt σ) = ws.map some)
    (q : ∀ H2, Ex H H2 → CloAt H2 f F fr ws → Q (.ref f) H2) : ∃ H2, Un X.fs X.ex X.H_0 H2 X.s_0.heap s.heap ∧ L2.HOk X.prog X.w H2 s.heap ∧ Q (.ref f) H2 := by
  have hC : ∀ b, CapOf F b → H b = none := fun b ⟨y, hy⟩ => J.freeC y b (cp.sub y b hy)
  have e := trk_ex (h := s.heap) hC
  have C := cells_of J cp
  refine ⟨trkP (CapOf F) s.heap H, ⟨J.base.keep, J.base.slot, fun b o h1 h2 h3 => ?_, J.base.there, fun b xs h1 => e _ _ (J.base.tups b xs h1), fun b o u h1 => e _ _ (J.base.frzs b o u h1), fun b ps h1 => ?_⟩, hok_trk J.hok hC, q _ e ⟨e _ _ hf, e _ _ hc, ?_, C.inj, fun b hb => ?_, fun i y hy => ?_⟩⟩
  · by_cases c : CapOf F b
    · obtain ⟨y, hy⟩ := c
      exact absurd (Heap.lt_size h1) (Nat.not_lt.mpr (cab y b (cp.sub y b hy)))
    · rw [trk_ne c]
      exact J.base.free b o h1 h2 h3
  · obtain ⟨more, h2⟩ := J.base.tbls b ps h1
    exact ⟨more, e _ _ h2⟩
  · have h1 := C.len
    rw [hws, List.length_map] at h1
    exact h1
  · obtain ⟨y, hy⟩ := hb
    obtain ⟨_, v, o, h1, h2⟩ := C.all y b hy
    refine ⟨o, v, ?_, h2⟩
    rw [trk_of ⟨y, hy⟩, h1]
    rfl
  · obtain ⟨b, h1, h2⟩ := C.has i y hy
    rw [hws] at h2
    have hi : i < ws.length := by
      have h3 := C.len
      rw [hws, List.length_map] at h3
      rw [h3]
      exact (List.getElem?_eq_some_iff.mp hy).1
    have hw : ws[i]? = some ws[i] := List.getElem?_eq_getElem hi
    obtain ⟨u, r, o, h3, h4⟩ := h2 ws[i] (by rw [List.getElem?_map, hw]; rfl)
    refine ⟨b, o, u, ws[i], h1, ?_, h4, hw, r⟩
    rw [trk_of ⟨y, h1⟩, h3]
    rfl
end
/-- a def of two statements, the second one «return x»: its end is told of the names too -/
theorem fn_ofN {CX : CXT} {P : Program} {w : World} {K : PySem.W.Frag} {mg : Str → Option Value} {base : Heap} {k : Nat} {f : Addr} {name qual : Str} {params : Arguments} {body : List Stmt} {scope : Scope} {dV kV doc pm cdv ct oc : Value} {an od : Option Addr}
    {osl : Array (Option Value)} {N ps : List Str} {sp : Sp} {st : Stmt} {x : Str} {p1 p2 : Pos} {i : Nat} (lk : K.lookup f = some ⟨oc, od, .func (PySem.W.fnOf name qual params body scope dV kV doc pm an cdv ct), osl⟩) (hcd : PySem.W.codeIn K cdv qual = true) (S : FnScope N ps scope)
    (len : ∀ vs H Q E, sp vs H Q E → vs.length = ps.length) (hb : body = [st, .Return (some (.Name x p1)) p2]) (hx : N[i]? = some x) (hv : Vis scope x)
    (hbody : ∀ (A : Around) (outer : List Env) (s : Shared) (H : Hp) (vs : List V) (Q : VK) (E : XK), Room k (A.deeper (envOfC qual scope s.heap.objs.size f cdv)) → sp vs H Q E →
      ∃ (t : TS) (R : L2.St → V → Hp → Prop), PS (cxOf CX P w K mg base N qual scope f cdv A outer s H E) st t ∧ t { nx := fun σ' H' => ∃ v, σ'[i]? = some (some v) ∧ R σ' v H', rt := Q } (start N vs) H ∧
        ∀ σ' v u H' s', Inv (cxOf CX P w K mg base N qual scope f cdv A outer s H E) [] σ' H' s' → σ'[i]? = some (some v) → L2.RelV v u → R σ' v H' → CE outer P w H s Q u s')
    (hd : (x == ("__debug__" : Str)) = false := by decide) (hcl : (x == ("__classdict__" : Str)) = false := by decide) :
    FnOk P w K mg base CX (k + 1) f (PySem.W.fnOf name qual params body scope dV kV doc pm an cdv ct) ps sp := by
  refine ⟨len, fun A outer s H args us vs Q E hr e0 hbd r hsp => ?_⟩
  have hl := len _ _ _ _ hsp
  have KX : K.In s.heap := e0.mod.kin.keeps fun b o e => (e0.bs b o e).1
  have lim : s.heap.NoLimit := e0.mod.nolimit.keeps fun b o e => (e0.bs b o e).1
  have hkind : ∀ y ∈ ps.zip us, scope.names.lookup y.1 = some .local ∨ (scope.names.lookup y.1 = some .cell ∧ ((cellsFrom (s.heap.objs.size + 1) scope.names []).lookup y.1).isSome = true) := fun ⟨n, v⟩ hy => by
    rcases S.par n (List.of_mem_zip hy).1 with q | q
    · exact .inl q
    · exact .inr ⟨q, PySem.W.cellsFrom_some _ _ _ (.inl q)⟩
  refine codeAny_call_function hr.depth (KX _ _ lk) rfl S.co S.gen rfl (PySem.W.codeRec_of KX hcd) (hbd _ _ _ _ ?_)
  refine wpAny_newFunctionEnv_cells S.kind hkind fun env he s1 x1 => ?_
  subst he
  refine ⟨lim.keeps x1.toInCall.keep, codeAny_func ?_⟩
  obtain ⟨t, R, ht, hq, hfin⟩ := hbody A outer s H vs Q E (hr.deeper _) hsp
  have I : Inv (cxOf CX P w K mg base N qual scope f cdv A outer s H E) [] (start N vs) H s1 := inv_start S hr.hd e0 hl r x1
  rw [hb]
  refine wpAny_mono (Q := fun fl s' => ∃ u, fl = .ret u ∧ CE outer P w H s Q u s') (wpAny_execs_cons (thn (ht.run [] s1 (start N vs) H _ I hq) fun fl s' hs => ?_)) (fun fl s' hs => ?_) fun e s' hs => hs
  · cases fl with
    | next =>
      obtain ⟨σ', H', J, v, h1, h2⟩ := hs
      refine wpAny_execs_cons (wpAny_Return_some (thn ((pe_var (pos := p1) (X := cxOf CX P w K mg base N qual scope f cdv A outer s H E) hx hv hd hcl).run [] s' σ' H' (fun v' H1 => v' = v ∧ H1 = H') J ⟨v, h1, rfl, rfl⟩) fun u s2 ⟨v', H1, J1, r1, e1, e2⟩ => ?_))
      subst e1 e2
      exact ⟨u, rfl, hfin σ' _ u _ s2 J1 h1 r1 h2⟩
    | ret u =>
      obtain ⟨v, σ', H', J, rv, q⟩ := hs
      exact ⟨u, rfl, v, H', J.os, J.bare, J.base, J.hok, rv, q⟩
    | brk =>
      obtain ⟨_, _, _, q⟩ := hs
      exact False.elim q
    | cont =>
      obtain ⟨_, _, _, q⟩ := hs
      exact False.elim q
  · obtain ⟨u, rfl, h⟩ := hs
    exact h
end TH
set_option maxRecDepth 100000
set_option maxHeartbeats 4000000
namespace TH
open PySem L2 Evl
abbrev sPlace : Stmt := top 14
abbrev sRInit : Stmt := inClass (top 19) 0
abbrev sRKeep : Stmt := inClass (top 19) 1
abbrev sRBook : Stmt := inClass (top 19) 2
abbrev sRMoods : Stmt := inClass (top 19) 3
abbrev sRTable : Stmt := inClass (top 19) 4
abbrev sRLiked : Stmt := inClass (top 19) 5
abbrev sRLead : Stmt := inClass (top 19) 6
abbrev sRMood : Stmt := inClass (top 19) 7
abbrev sRLikes : Stmt := inClass (top 19) 8
/-! ### a Reader in the heap -/
def rflds (pb : Addr) (m : Int) (lt ll : Addr) : List (Str × V) := putF "_liked" (.ref ll) (putF "_tables" (.ref lt) (putF "_moods" (.int m) (putF "_book" (.ref pb) [])))
section
variable (pb : Addr) (m : Int) (lt ll : Addr)
theorem rflds_book : (rflds pb m lt ll).lookup ("_book" : Str) = some (.ref pb) := by
  unfold rflds
  rw [lookup_putF, if_neg (by decide +kernel), lookup_putF, if_neg (by decide +kernel), lookup_putF, if_neg (by decide +kernel), lookup_putF, if_pos rfl]
theorem rflds_moods : (rflds pb m lt ll).lookup ("_moods" : Str) = some (.int m) := by
  unfold rflds
  rw [lookup_putF, if_neg (by decide +kernel), lookup_putF, if_neg (by decide +kernel), lookup_putF, if_pos rfl]
theorem rflds_tables : (rflds pb m lt ll).lookup ("_tables" : Str) = some (.ref lt) := by
  unfold rflds
  rw [lookup_putF, if_neg (by decide +kernel), lookup_putF, if_pos rfl]
theorem rflds_liked : (rflds pb m lt ll).lookup ("_liked" : Str) = some (.ref ll) := by
  unfold rflds
  rw [lookup_putF, if_pos rfl]
theorem rflds_no {x : Str} (h1 : ¬ x = "_liked") (h2 : ¬ x = "_tables") (h3 : ¬ x = "_moods") (h4 : ¬ x = "_book") : (rflds pb m lt ll).lookup x = none := by
  unfold rflds
  rw [lookup_putF, if_neg h1, lookup_putF, if_neg h2, lookup_putF, if_neg h3, lookup_putF, if_neg h4]
  rfl
end
/-- a Reader of moods, tables and liked moods, whatever they are -/
def ReadAt (K : PySem.W.Frag) (CB CR : Addr) (M : Addr → Prop) (H : Hp) (p : Addr) (S : List Sg) (R : Pl) : Prop :=
  ∃ dx pb lt ll, H p = some (.ins CR dx (rflds pb (R.moods : Int) lt ll)) ∧ BookAt CB M H pb S ∧ Dt K M H (.ref lt) (.list (R.tables.map intsD)) ∧ Dt K M H (.ref ll) (intsD R.liked)
section
variable {K : PySem.W.Frag} {M M' : Addr → Prop} {H H' : Hp} {CB CR p : Addr} {S : List Sg} {R : Pl}
theorem ReadAt.ex (h : ReadAt K CB CR M H p S R) (e : Ex H H') : ReadAt K CB CR M H' p S R := by
  obtain ⟨dx, pb, lt, ll, h1, h2, h3, h4⟩ := h
  exact ⟨dx, pb, lt, ll, e _ _ h1, h2.ex e, h3.ex e, h4.ex e⟩
theorem ReadAt.weak (h : ReadAt K CB CR M H p S R) (m : ∀ a, M' a → M a) : ReadAt K CB CR M' H p S R := by
  obtain ⟨dx, pb, lt, ll, h1, h2, h3, h4⟩ := h
  exact ⟨dx, pb, lt, ll, h1, h2.weak m, h3.weak m, h4.weak m⟩
theorem ReadAt.more {D : Addr} (h : ReadAt K CB CR M H p S R) (hD : H D = none) : ReadAt K CB CR (TH.more M D) H p S R := by
  obtain ⟨dx, pb, lt, ll, h1, h2, h3, h4⟩ := h
  exact ⟨dx, pb, lt, ll, h1, h2.more hD, h3.more hD, h4.more hD⟩
theorem ReadAt.upd {l : Addr} {ys : List V} {o : HO} (h : ReadAt K CB CR M H p S R) (hl : H l = some (.lst ys)) (m : M l) : ReadAt K CB CR M (L2.upd H l o) p S R := by
  obtain ⟨dx, pb, lt, ll, h1, h2, h3, h4⟩ := h
  refine ⟨dx, pb, lt, ll, ?_, h2.upd hl m, h3.upd hl m, h4.upd hl m⟩
  rw [upd_ne (ne_of h1 hl (by intro z; cases z))]
  exact h1
end
structure ReadT (K : PySem.W.Frag) (mg : Str → Option Value) (C : Addr) : Prop where
  cl : Cls K C
  n1 : NoAttr K C "_book"
  n2 : NoAttr K C "_moods"
  n3 : NoAttr K C "_tables"
  n4 : NoAttr K C "_liked"
  g : mg "Reader" = some (.ref C)
section
variable {K : PySem.W.Frag} {M M' : Addr → Prop} {H H1 H' : Hp} {σ : L2.St} {ta tb te : TE} {E : XK} {d : PyData}
end
/-! ### place_in_table -/
def spPlace (K : PySem.W.Frag) : Sp := fun vs H Q _ => ∃ (m : Nat) (z : V) (k : List Nat), vs = [.int (m : Int), z] ∧ Dt K MF H z (tupI (ofN k)) ∧ m ≤ 40 ∧ k.length ≤ 2 ∧ (∀ x ∈ k, x < m) ∧ ∀ H', Ex H H' → Q (.int (spotN m k : Int)) H'
theorem spotN_small {m : Nat} {k : List Nat} (hM : m ≤ 40) (hK : k.length ≤ 2) (hm : ∀ x ∈ k, x < m) (i : Nat) : spotN m (k.take i) ≤ 1600 := by
  have h := spotN_lt (m := m) (k := k.take i) fun x hx => hm x (List.mem_of_mem_take hx)
  have h1 : m ^ (k.take i).length ≤ 40 ^ (k.take i).length := Nat.pow_le_pow_left hM _
  have h2 : (40 : Nat) ^ (k.take i).length ≤ 40 ^ 2 := Nat.pow_le_pow_right (by decide) (by rw [List.length_take]; omega)
  omega
theorem spotN_snocR {m : Nat} {k : List Nat} {i x : Nat} (h : k[i]? = some x) : spotN m (k.take (i + 1)) = spotN m (k.take i) * m + x := by
  unfold spotN
  rw [List.take_add_one, h]
  show (k.take i ++ [x]).foldl _ 0 = _
  rw [List.foldl_append]
  rfl
section
variable {P : Program} {w : World} {K : PySem.W.Frag} {mg : Str → Option Value} {base : Heap} {CB CR : Addr}
abbrev nPlace : List Str := ["moods", "kids", "place", "mood"]
theorem scPlace : FnScope nPlace ["moods", "kids"] (defScope sPlace) := ⟨rfl, rfl, rfl, by decide +kernel, rfl, by decide +kernel, by decide +kernel⟩
theorem ok_place {f : Addr} {fd : FuncData} (F : Fun K "place_in_table" "place_in_table" sPlace f fd) : FnOk P w K mg base CX0 1 f fd ["moods", "kids"] (spPlace K) := by
  refine F.ok scPlace (fun vs H Q E h => ?_) (fun cdv A outer s0 H vs Q E hr h => ?_)
  · obtain ⟨m, z, k, rfl, _⟩ := h
    rfl
  · obtain ⟨m, z, k, rfl, hz, hM, hk2, hm, q⟩ := h
    refine ⟨_, pss_cons (ps_set (i := 2) scPlace.nd rfl (.inl rfl) pe_int)
      (pss_cons (ps_for PassesOwn.never rfl (pi_tup (pv 1)) (pg_name (i := 3) scPlace.nd rfl (.inl rfl))
        (pss_one (ps_set (i := 2) scPlace.nd rfl (.inl rfl) (pe_op op_add (pe_op op_mul (pv 2) (pv 0)) (pv 3)))))
      (pss_one (ps_ret (pv 2)))), ?_⟩
    obtain ⟨a, rfl, ha⟩ := dt_tupN hz
    refine ⟨_, rfl, a, rfl, ⟨_, ha⟩, for_tup (K := K) (a := a) (xs := nums k) (fun i σ' H' => Ex H H' ∧ ∃ u, σ' = [some (.int (m : Int)), some (.ref a), some (.int (spotN m (k.take i) : Int)), u])
      ⟨Ex.refl H, none, rfl⟩ (fun i σ' H' _ z => ex_t z.1 ha) ?_ ?_⟩
    · rintro i x σ' H1 hx ⟨e, u, rfl⟩
      obtain ⟨hi, _⟩ := List.getElem?_eq_some_iff.mp hx
      rw [nums_len] at hi
      have hx1 : k[i]? = some (k[i]'hi) := List.getElem?_eq_getElem _
      rw [nums_at hx1] at hx
      cases hx
      have hs := spotN_small hM hk2 hm i
      refine s_asgP (K := K) (M := MF) (evd_add (evd_mulM (evd_var (i := 2) rfl (.int _)) (evd_var (i := 0) rfl (.int _)) (by omega)) (evd_var (i := 3) rfl (.int _))) fun y d H2 e2 dy pd => ?_
      subst pd
      cases dy
      refine ⟨e.trans e2, some (.int ((k[i]'hi : Nat) : Int)), ?_⟩
      rw [spotN_snocR hx1, Int.natCast_add, Int.natCast_mul]
      rfl
    · rintro σ' H1 ⟨e, u, rfl⟩
      rw [nums_len, List.take_length]
      exact ⟨_, rfl, q H1 e⟩
end
/-! ### what a Reader tells of itself -/
def spRBook (K : PySem.W.Frag) (CB CR : Addr) : Sp := fun vs H Q _ => ∃ (M : Addr → Prop) (p : Addr) (S : List Sg) (R : Pl), vs = [.ref p] ∧ ReadAt K CB CR M H p S R ∧ ∀ pb, BookAt CB M H pb S → Q (.ref pb) H
def spRMoods (K : PySem.W.Frag) (CB CR : Addr) : Sp := fun vs H Q _ => ∃ (M : Addr → Prop) (p : Addr) (S : List Sg) (R : Pl), vs = [.ref p] ∧ ReadAt K CB CR M H p S R ∧ Q (.int (R.moods : Int)) H
def spRTable (K : PySem.W.Frag) (CB CR : Addr) : Sp := fun vs H Q _ => ∃ (M : Addr → Prop) (p : Addr) (S : List Sg) (R : Pl) (s : Nat) (tb : List Nat), vs = [.ref p, .int (s : Int)] ∧ ReadAt K CB CR M H p S R ∧ R.tables[s]? = some tb ∧
  ∀ l H', H l = none → Ex H H' → H' l = some (.lst (nums tb)) → Q (.ref l) H'
def spRLiked (K : PySem.W.Frag) (CB CR : Addr) : Sp := fun vs H Q _ => ∃ (M : Addr → Prop) (p : Addr) (S : List Sg) (R : Pl), vs = [.ref p] ∧ ReadAt K CB CR M H p S R ∧
  ∀ l H', H l = none → Ex H H' → H' l = some (.lst (nums R.liked)) → Q (.ref l) H'
def spRLead (K : PySem.W.Frag) (CB CR : Addr) : Sp := fun vs H Q _ => ∃ (M : Addr → Prop) (p : Addr) (S : List Sg) (R : Pl) (s : Nat) (z : V) (k : List Nat), vs = [.ref p, .int (s : Int), z] ∧ ReadAt K CB CR M H p S R ∧ Dt K MF H z (tupI (ofN k)) ∧ GoodR S R ∧ KidsOk S ∧ s < S.length ∧ k.length = ks S s ∧ (∀ x ∈ k, x < R.moods) ∧
  ∀ H', Ex H H' → Q (.int (ledN R s k : Int)) H'
theorem tabsAt {R : Pl} {s : Nat} {tb : List Nat} (h : R.tables[s]? = some tb) : (R.tables.map intsD)[s]? = some (intsD tb) := by
  rw [List.getElem?_map, h]
  rfl
section
variable {P : Program} {w : World} {K : PySem.W.Frag} {mg : Str → Option Value} {base : Heap} {CB CR : Addr}
theorem scRBook : FnScope ["self"] ["self"] (defScope sRBook) := ⟨rfl, rfl, rfl, by decide +kernel, rfl, by decide +kernel, by decide +kernel⟩
theorem ok_rbook {f : Addr} {fd : FuncData} (F : Fun K "book" "Reader.book" sRBook f fd) (T : ReadT K mg CR) : FnOk P w K mg base CX0 1 f fd ["self"] (spRBook K CB CR) := by
  refine F.ok scRBook (fun vs H Q E h => ?_) (fun cdv A outer s0 H vs Q E hr h => ?_)
  · obtain ⟨M, p, S, R, rfl, _⟩ := h
    rfl
  · obtain ⟨M, p, S, R, rfl, ⟨dx, pb, lt, ll, h1, h2, h3, h4⟩, q⟩ := h
    refine ⟨_, pss_one (ps_ret (pe_fld (pv 0) rfl)), ?_⟩
    exact ⟨_, rfl, p, CR, dx, _, _, rfl, h1, T.cl, T.n1, rflds_book _ _ _ _, q pb h2⟩
theorem scRMoods : FnScope ["self"] ["self"] (defScope sRMoods) := ⟨rfl, rfl, rfl, by decide +kernel, rfl, by decide +kernel, by decide +kernel⟩
theorem ok_rmoods {f : Addr} {fd : FuncData} (F : Fun K "moods" "Reader.moods" sRMoods f fd) (T : ReadT K mg CR) : FnOk P w K mg base CX0 1 f fd ["self"] (spRMoods K CB CR) := by
  refine F.ok scRMoods (fun vs H Q E h => ?_) (fun cdv A outer s0 H vs Q E hr h => ?_)
  · obtain ⟨M, p, S, R, rfl, _⟩ := h
    rfl
  · obtain ⟨M, p, S, R, rfl, ⟨dx, pb, lt, ll, h1, h2, h3, h4⟩, q⟩ := h
    refine ⟨_, pss_one (ps_ret (pe_fld (pv 0) rfl)), ?_⟩
    exact ⟨_, rfl, p, CR, dx, _, _, rfl, h1, T.cl, T.n2, rflds_moods _ _ _ _, q⟩
theorem scRTable : FnScope ["self", "sign"] ["self", "sign"] (defScope sRTable) := ⟨rfl, rfl, rfl, by decide +kernel, rfl, by decide +kernel, by decide +kernel⟩
theorem ok_rtable {f : Addr} {fd : FuncData} (F : Fun K "table" "Reader.table" sRTable f fd) (GY : GlobY mg) (T : ReadT K mg CR) : FnOk P w K mg base CX0 1 f fd ["self", "sign"] (spRTable K CB CR) := by
  refine F.ok scRTable (fun vs H Q E h => ?_) (fun cdv A outer s0 H vs Q E hr h => ?_)
  · obtain ⟨M, p, S, R, s, tb, rfl, _⟩ := h
    rfl
  · obtain ⟨M, p, S, R, s, tb, rfl, ⟨dx, pb, lt, ll, h1, h2, h3, h4⟩, ht, q⟩ := h
    refine ⟨_, pss_one (ps_ret (pe_callTy call_list_of (by rfl) GY.list (by decide +kernel) (pa_cons (pe_ix ix_list (pe_fld (pv 0) rfl) (pv 1) (fun _ _ => rfl)) pa_nil))), ?_⟩
    refine (evd_ixL (K := K) (M := M) (j := s) (evd_fld (i := 0) rfl h1 T.cl T.n3 (rflds_tables _ _ _ _) h3) (evd_var (i := 1) rfl (.int (s : Int))) rfl (tabsAt ht)).use fun v d H1 e1 dv pd => ?_
    subst pd
    obtain ⟨a, rfl, ha, _⟩ := dt_listN dv
    exact ⟨_, _, rfl, .inl (sq_of ha), fun l hl => q l _ (fresh_back e1 hl) (e1.trans (Ex.new hl)) upd_same⟩
theorem scRLiked : FnScope ["self"] ["self"] (defScope sRLiked) := ⟨rfl, rfl, rfl, by decide +kernel, rfl, by decide +kernel, by decide +kernel⟩
theorem ok_rliked {f : Addr} {fd : FuncData} (F : Fun K "liked" "Reader.liked" sRLiked f fd) (GY : GlobY mg) (T : ReadT K mg CR) : FnOk P w K mg base CX0 1 f fd ["self"] (spRLiked K CB CR) := by
  refine F.ok scRLiked (fun vs H Q E h => ?_) (fun cdv A outer s0 H vs Q E hr h => ?_)
  · obtain ⟨M, p, S, R, rfl, _⟩ := h
    rfl
  · obtain ⟨M, p, S, R, rfl, ⟨dx, pb, lt, ll, h1, h2, h3, h4⟩, q⟩ := h
    refine ⟨_, pss_one (ps_ret (pe_callTy call_list_of (by rfl) GY.list (by decide +kernel) (pa_cons (pe_fld (pv 0) rfl) pa_nil))), ?_⟩
    obtain ⟨a, e, ha, _⟩ := dt_listN h4
    cases e
    exact ⟨_, rfl, p, CR, dx, _, _, rfl, h1, T.cl, T.n4, rflds_liked _ _ _ _, _, _, rfl, .inl (sq_of ha), fun l hl => q l _ hl (Ex.new hl) upd_same⟩
theorem scRLead : FnScope ["self", "sign", "kids"] ["self", "sign", "kids"] (defScope sRLead) := ⟨rfl, rfl, rfl, by decide +kernel, rfl, by decide +kernel, by decide +kernel⟩
theorem ok_rlead {f : Addr} {fd : FuncData} (F : Fun K "lead" "Reader.lead" sRLead f fd) (T : ReadT K mg CR) (B : OneF P w K mg base "place_in_table" 1 ["moods", "kids"] (spPlace K)) : FnOk P w K mg base CX0 2 f fd ["self", "sign", "kids"] (spRLead K CB CR) := by
  obtain ⟨f1, d1, m1, k1, g1, b1⟩ := B
  refine F.ok scRLead (fun vs H Q E h => ?_) (fun cdv A outer s0 H vs Q E hr h => ?_)
  · obtain ⟨M, p, S, R, s, z, k, rfl, _⟩ := h
    rfl
  · obtain ⟨M, p, S, R, s, z, k, rfl, ⟨dx, pb, lt, ll, h1, h2, h3, h4⟩, hz, g, hK, hs, hk, hm, q⟩ := h
    refine ⟨_, pss_one (ps_ret (pe_ix ix_list (pe_ix ix_list (pe_fld (pv 0) rfl) (pv 1) (fun _ _ => rfl)) (pe_call g1 hr rfl m1 k1 b1 .nil pass0 (pa_cons (pe_fld (pv 0) rfl) (pa_cons (pv 2) pa_nil))) (fun _ _ => rfl))), ?_⟩
    obtain ⟨tb, ht, hl, _⟩ := g.led hs hk hm
    have hk2 : k.length ≤ 2 := by rw [hk]; exact ks_le hK s
    refine s_retP (K := K) (M := M) (evd_ixL (j := spotN R.moods k) (i := (spotN R.moods k : Int)) (evd_ixL (j := s) (evd_fld (i := 0) rfl h1 T.cl T.n3 (rflds_tables _ _ _ _) h3) (evd_var (i := 1) rfl (.int (s : Int))) rfl (tabsAt ht)) ?_ rfl (by rw [List.getElem?_map, ofN_at hl]; rfl)) fun x d H2 e2 dx pd => ?_
    · intro H1 e Q q
      refine ⟨_, rfl, p, CR, dx, _, _, rfl, e _ _ h1, T.cl, T.n2, rflds_moods _ _ _ _, _, rfl, R.moods, z, k, rfl, hz.ex e, g.m6, hk2, hm, fun H' e' => q _ _ H' e' (.int _) rfl⟩
    · subst pd
      cases dx
      exact q H2 e2
end
end TH
set_option maxRecDepth 100000
set_option maxHeartbeats 4000000
namespace TH
open PySem PySem.Spec PyProof.Rows L2 Evl PpSet
/-! ### {elt for target in iter}, the members ints -/
section
variable {X : Cx}
/-- one turn of the block: the member goes into the set at D -/
def SetTurnO (w : World) (D : Addr) (σ0 : L2.St) (vs : List Nat) (tt : TT) (te : TE) (Nx : Hp → Prop) (σ2 : L2.St) (H2 : Hp) : Prop :=
  wipe σ2 vs = wipe σ0 vs ∧ tt σ2 H2 fun b H3 =>
    if b = true then te σ2 H3 fun y H4 =>
      ∃ (k : Int) (S : Int → Bool) (n : Nat), y = .int k ∧ H4 D = some (SetO w D S n) ∧ n + 1 < scanBound ∧
        Nx (upd H4 D (SetO w D (fun j => S j || decide (j = k)) (if S k = true then n else n + 1)))
    else Nx H3
def tScO (w : World) (wi : TI) (g : TG) (tt : TT) (te : TE) (vs : List Nat) : TE := fun σ H Q =>
  wi σ H fun J H1 => ∀ D, H1 D = none → ∃ W : Nat → Nat → Hp → Prop,
    (∃ m, W 0 m (upd H1 D (SetO w D (fun _ => false) 0))) ∧
    ∀ i m H, W i m H → (J.stop i H ∧ Q (.ref D) H) ∨
      (J.go i H ∧ ∃ Nx : Hp → Prop, (∀ H', Nx H' → ∃ m', m' < m ∧ W (i + 1) m' H') ∧
        ∀ x H', J.yld i H x H' → g x (wipe σ vs) H' (SetTurnO w D σ vs tt te Nx))
/-- the member is added, within any context -/
theorem addO_ok {Y : Cx} {pins : List (Addr × Obj)} {σ : L2.St} {G : Hp} {s : Shared} {D : Addr} {S : Int → Bool} {n : Nat} {k : Int} {u : Value} {Q E : Value → Shared → Prop}
    (I : Inv Y pins σ G s) (hD : G D = some (SetO Y.w D S n)) (ru : RelV (.int k) u) (room : n + 1 < scanBound)
    (h : ∀ v s', Inv Y pins σ (upd G D (SetO Y.w D (fun j => S j || decide (j = k)) (if S k = true then n else n + 1))) s' → Q v s') :
    wpAny (model Y.prog Y.w) Y.A (call (.builtin "set.add") [.ref D, u]) Q E s := by
  obtain ⟨tk, rfl⟩ := ru
  refine setR_add (setO_get I hD) room fun hp' same born => ?_
  have there : ∃ o, hp'.get? D = some o := by
    obtain ⟨o, _, _, _, ho, _⟩ := id born
    exact ⟨o, ho⟩
  exact h _ _ (I.write (e := D) (t' := s.toks + 1) (by rw [hD]; trivial) (.inl rfl) (fun b o hb ho => (same.2 b hb).trans ho) there (setO_new born))
theorem setO_start {G : Hp} {s : Shared} {pins : List (Addr × Obj)} {σ : L2.St} (I : Inv X pins σ G s) :
    Inv X pins σ (upd G s.heap.objs.size (SetO X.w s.heap.objs.size (fun _ => false) 0))
      { s with heap := s.heap.push { cls := .type "set", dict := none, data := .set #[] 0 (.fresh 0 0 (!X.w.params.followText "set-order")) } } :=
  I.laid (t' := s.toks) (fun b u q => Heap.get?_push_of_some _ q) (Nat.le_refl _) (setO_new (setR_fresh X.w))
theorem pe_scO {elt tg iter : Expr} {ifs : List Expr} {scope : Scope} {own : List (Str × Nat)} {pos : Pos} {wi : TI} {g : TG} {tt : TT} {te : TE}
    (calm : X.calm = true) (nodup : X.N.Nodup) (src : PI X tg iter wi) (blk : BlkOk X.N X.env.scope scope own)
    (ptg : ∀ (s : Shared) (G : Hp) (C : Addr) (cl : List (Str × Addr)) (fp : List Addr), PG (X.blk s G scope (compEnvC scope cl C X.env) fp) tg g)
    (pif : ∀ (s : Shared) (G : Hp) (C : Addr) (cl : List (Str × Addr)) (fp : List Addr), PTs (X.blk s G scope (compEnvC scope cl C X.env) fp) ifs tt)
    (pel : ∀ (s : Shared) (G : Hp) (C : Addr) (cl : List (Str × Addr)) (fp : List Addr), PE (X.blk s G scope (compEnvC scope cl C X.env) fp) elt te)
    (fold : ∀ x, foldedSetIterable iter X.env x = pure x := by intro _; rfl) :
    PE X (.SetComp elt [⟨tg, iter, ifs, 0⟩] scope pos) (tScO X.w wi g tt te (own.map (·.2))) := by
  refine ⟨fun pins s σ G Q I wish => ?_⟩
  rw [eval_SetComp]
  have caught : ∀ y ∈ scope.names, y.2 = .free → ∃ c, X.env.cells.lookup y.1 = some c := by
    intro y hy hf
    cases blk.free y hy hf with
    | inl z => exact I.ok.has _ (.inl z)
    | inr z => exact I.ok.has _ (.inr z)
  refine wpAny_comprehension_free rfl fold (closure_ok caught) blk.kind (fun y hy z => by rw [blk.uniq y hy, z]) ?_
  refine thn (src.run pins s σ G _ I wish) fun seqv sA hA => thn hA fun itv sB hB => ?_
  obtain ⟨it, fp, turnAt, J, GB, eit, IB, TT, stB, fpB, hq⟩ := hB
  subst eit
  refine newSet_ok (newEnv_comp ?_)
  have fresh : GB sB.heap.objs.size = none := IB.hok.fresh (Nat.le_refl _)
  have IC := setO_start IB
  revert fresh IC
  generalize eD : sB.heap.objs.size = D
  intro fresh IC
  obtain ⟨W, ⟨m0, w0⟩, steps⟩ := hq D fresh
  revert IC
  generalize eC : ({ sB with heap := sB.heap.push { cls := .type "set", dict := none, data := .set #[] 0 (.fresh 0 0 (!X.w.params.followText "set-order")) } } : Shared) = sC
  generalize eG : upd GB D (SetO X.w D (fun _ => false) 0) = GC at w0
  intro IC
  have grown : ∀ b o, sB.heap.get? b = some o → sC.heap.get? b = some o := by
    intro b o q
    rw [← eC]
    exact Heap.get?_push_of_some _ q
  have small : ∀ b ∈ fp, b < sB.heap.objs.size := by
    intro b hb
    obtain ⟨o, q, _⟩ := TT.obj _ _ stB b hb
    exact Heap.lt_size q
  have fpC : ∀ b ∈ fp, FpOk X pins GC b ∧ b < sC.heap.objs.size := by
    intro b hb
    have lt := small b hb
    constructor
    · refine ⟨?_, (fpB b hb).2⟩
      rw [← eG, upd_ne (by rw [← eD]; exact Nat.ne_of_lt lt)]
      exact (fpB b hb).1
    · rw [← eC]
      show b < (sB.heap.push _).objs.size
      rw [Heap.size_push]
      exact Nat.lt_succ_of_lt lt
  have stC : turnAt 0 sC.heap := TT.keep _ _ _ stB fun b _ o q => grown b o q
  have ID := block_start IC blk nodup fpC
  have tgD := ptg sC GC sC.heap.objs.size (cellsFrom (sC.heap.objs.size + 1) scope.names (cloFrom X.env.cells scope.names [])) fp
  have ifD := pif sC GC sC.heap.objs.size (cellsFrom (sC.heap.objs.size + 1) scope.names (cloFrom X.env.cells scope.names [])) fp
  have elD := pel sC GC sC.heap.objs.size (cellsFrom (sC.heap.objs.size + 1) scope.names (cloFrom X.env.cells scope.names [])) fp
  have post : ∀ (s' : Shared) (m : Str → Option Value) (G' : Hp), Inv X pins σ G' s' → Q (.ref D) G' → s'.heap.Ns sC.heap.objs.size m → FpOk X pins G' sC.heap.objs.size →
      compPost (model X.prog X.w) X.A X.xe none (EP X pins σ Q) (.ref D) sC.heap.objs.size (.ok .next) s' := by
    intro s' m G' I' q hn hf
    refine ⟨m, hn, fun h'' same => ?_⟩
    obtain ⟨f0, f1, f2, f3, f4, f5⟩ := hf
    exact ⟨.ref D, G', I'.turned (t' := s'.toks) (fun b o hb z => (same.2 b hb).trans z) f0 f1 f3 f4 f5, rfl, q⟩
  show codeAny _ _ (.compStart (.SetComp elt [⟨tg, iter, ifs, 0⟩] scope pos) 0 (.ref it) (.ref D) (compEnvC scope (cellsFrom (sC.heap.objs.size + 1) scope.names (cloFrom X.env.cells scope.names [])) sC.heap.objs.size X.env))
    (compPost (model X.prog X.w) X.A X.xe none (EP X pins σ Q) (.ref D) sC.heap.objs.size) { sC with heap := pushCells (sC.heap.push { cls := .type "dict", data := .dict #[] }) scope.names }
  have none_fp : ∀ b ∈ fp, GC b = none := fun b hb => (fpC b hb).1.1
  revert ID tgD ifD elD
  generalize eE : compEnvC scope (cellsFrom (sC.heap.objs.size + 1) scope.names (cloFrom X.env.cells scope.names [])) sC.heap.objs.size X.env = cenv
  have locals : cenv.locals = sC.heap.objs.size := by
    rw [← eE]
    rfl
  generalize eS : ({ sC with heap := pushCells (sC.heap.push { cls := .type "dict", data := .dict #[] }) scope.names } : Shared) = sD
  intro ID tgD ifD elD
  have stD : turnAt 0 sD.heap := by
    refine TT.keep _ _ _ stC fun b _ o q => ?_
    rw [← eS]
    exact pushCells_keeps _ _ _ _ (Heap.get?_push_of_some _ q)
  have steady : ∀ {σ' : L2.St} {G' : Hp} {s' : Shared}, Inv (X.blk sC GC scope cenv fp) [] σ' G' s' → (∀ b ∈ fp, G' b = none) → ∀ b ∈ fp, FpOk (X.blk sC GC scope cenv fp) [] G' b := by
    intro σ' G' s' I' hn b hb
    refine ⟨hn b hb, (I'.ok.exf b hb).1, I'.ok.exfs b hb, .inl hb, fun x c => (I'.ok.exf b hb).2 x c, fun p hp => ?_⟩
    exact absurd (show p ∈ ([] : List (Addr × Obj)) ++ [] from hp) (by simp)
  have loop : codeAny (model X.prog X.w) X.A (.compLoop (.SetComp elt [⟨tg, iter, ifs, 0⟩] scope pos) 0 (.ref it) (.ref D) cenv)
      (compPost (model X.prog X.w) X.A X.xe none (EP X pins σ Q) (.ref D) sC.heap.objs.size) sD := by
    refine compLoopS_any (fun n s' => ∃ i G', Inv (X.blk sC GC scope cenv fp) [] (wipe σ (own.map (·.2))) G' s' ∧ turnAt i s'.heap ∧ (∀ b ∈ fp, G' b = none) ∧ W i n G') ?_ m0 ⟨0, GC, ID, stD, none_fp, w0⟩
    rintro n s5 ⟨i, G5, I5, st5, n5, w5⟩
    cases steps i n G5 w5 with
    | inl done =>
      obtain ⟨stop, hq⟩ := done
      refine thnF (TT.done (X.blk sC GC scope cenv fp) rfl rfl rfl calm i [] s5 _ G5 (fun _ _ => False) I5 (steady I5 n5) st5 stop) fun r s6 ⟨hr, I6⟩ => ?_
      subst hr
      have I7 : Inv X pins σ G5 s6 := IC.call' (ch := fp) I6.os I6.base I6.hok I6.bare fun b hb =>
        ⟨(fpC b hb).1.2.2.2.1, (fpC b hb).1.2.1, (fpC b hb).1.2.2.2.2.1, (fpC b hb).1.2.2.2.2.2⟩
      have gone : G5 sC.heap.objs.size = none := by
        rw [← locals]
        exact I6.free
      obtain ⟨m, hn, _⟩ := I6.loc
      refine post s6 m G5 I7 hq ?_ (IC.fpOk (Nat.le_refl _) gone)
      rw [← locals]
      exact hn
    | inr more =>
      obtain ⟨go, Nx, hNx, step⟩ := more
      refine thnF (TT.item (X.blk sC GC scope cenv fp) rfl rfl rfl calm i [] s5 _ G5 (fun _ _ => False) I5 (steady I5 n5) st5 go) fun r s6 ⟨u, hr, h6⟩ => ?_
      subst hr
      refine thnF h6 fun _ s7 ⟨x, G7, I7, r7, y7, st7, n7⟩ => ?_
      refine thnF (tgD.run _ s7 _ G7 x u _ (I7.pinned (steady I7 n7) (TT.obj _ _ st7)) r7 (step x G7 y7)) fun _ s8 ⟨σ8, G8, I8, hw, q8⟩ => ?_
      refine thnF (ifD.run _ s8 σ8 G8 _ I8 q8) fun b s9 ⟨G9, I9, q9⟩ => ?_
      have back : ∀ {s' : Shared} {G' : Hp}, Inv (X.blk sC GC scope cenv fp) ([] ++ pinsAt fp s7.heap) σ8 G' s' → Nx G' →
          ∃ m, m < n ∧ ∃ i G', Inv (X.blk sC GC scope cenv fp) [] (wipe σ (own.map (·.2))) G' s' ∧ turnAt i s'.heap ∧ (∀ b ∈ fp, G' b = none) ∧ W i m G' := by
        intro s' G' I' nx
        obtain ⟨m', hm, w'⟩ := hNx G' nx
        have pinned : ∀ b ∈ fp, ∀ o, s7.heap.get? b = some o → s'.heap.get? b = some o ∧ G' b = none := by
          intro b hb o q
          have z := I'.pin (b, o) (List.mem_append_right _ (List.mem_append_right _ (mem_pinsAt hb q)))
          exact ⟨z.1, z.2.1⟩
        have len : (wipe σ (own.map (·.2))).length = σ8.length := by rw [← hw, wipe_length]
        refine ⟨m', hm, i + 1, G', (I'.unpinned (pins := [])).weak len ?_, TT.keep _ _ _ st7 fun b hb o q => (pinned b hb o q).1, fun b hb => ?_, w'⟩
        · intro j v q
          rw [← hw] at q
          exact (wipe_some q).1
        · obtain ⟨o, q, _⟩ := TT.obj _ _ st7 b hb
          exact (pinned b hb o q).2
      cases b with
      | false => exact back I9 q9
      | true =>
        show wpAny _ _ _ _ _ _
        refine thnF (elD.run _ s9 σ8 G9 _ I9 q9) fun z s10 ⟨yv, G10, I10, r10, k, S0, n0, ey, hD10, room, nx⟩ => ?_
        subst ey
        exact addO_ok (Y := X.blk sC GC scope cenv fp) I10 hD10 r10 room fun v s11 I11 => back I11 nx
  exact codeAny_compStart_set loop (TT.self X.A 0 _ _ _ stD loop)
end
end TH
set_option maxRecDepth 100000
set_option maxHeartbeats 4000000
namespace TH
open PySem L2 Evl RZ
section
variable {K : PySem.W.Frag} {a b : Addr} {xs ys : List V}
theorem walk_zipT {n : Nat} (hn : n = min xs.length ys.length) : Walk (ItzT K a b) n (fun H => SqT K H a xs ∧ SqT K H b ys) (YPair (fun i => xs[i]?) (fun i => ys[i]?)) := by
  subst hn
  refine ⟨fun i _ hi q => ?_, fun _ q => ⟨xs, ys, q.1, q.2, by omega⟩, fun i H v H' _ q y => ?_⟩
  · have h1 : i < xs.length := by omega
    have h2 : i < ys.length := by omega
    exact ⟨xs, ys, xs[i], ys[i], q.1, q.2, by simp [h1], by simp [h2]⟩
  · obtain ⟨T, x, z, h1, h2, h3, h4, h5⟩ := y
    exact ⟨T, x, z, h1, h2, h3, h4 xs q.1, h5 ys q.2⟩
end
section
variable {K : PySem.W.Frag} {M M' N Mb : Addr → Prop} {H H1 H' : Hp} {σ : L2.St} {ta tb tc te tl : TE} {tt : TT} {g : TG} {vs : List Nat}
/-- a comprehension over a tuple -/
theorem evn_lcTM {β : Type} {bs : List β} (enc F : β → PyData) (ok : Ok M H) (hl : EvD K M tl σ H (.tuple (bs.map enc))) (hz : bs.length < sizeLine)
    (hs : ∀ (M' : Addr → Prop) (b : β) (x : V) (H' : Hp), (∀ v d, Dt K M H v d → Dt K M' H' v d) → Ok M' H' → b ∈ bs → Ex H H' → Dt K M' H' x (enc b) →
      ∀ Qg : L2.St → Hp → Prop, (∀ σ2 H2, Ex H' H2 → Turned K M' σ vs tt te true (· = F b) σ2 H2 → Qg σ2 H2) → g x (wipe σ vs) H' Qg) :
    EvNew K M (tLc (iTup K tl) g tt te vs) σ H (· = bs.map F) := fun H0 e Q q =>
  hl H0 e _ fun v d H1 e1 dv pd => by
    subst pd
    cases dv with
    | tup h1 h3 =>
      rename_i a xs
      refine ⟨a, rfl, ⟨xs, SqT.of h1⟩, fun D hD => ?_⟩
      have hw : Walk (Itt K a) bs.length (fun H => SqT K H a xs) (YAt xs) := by
        have := h3.length
        rw [List.length_map] at this
        rw [← this]
        exact walk_tup
      refine lc_data (K := K) (σ := σ) (vs := vs) bs hw ((ok.ex (e.trans e1))) hD hz (fun _ => true) (fun b e => e = F b) (fun H e => SqT.of (e _ _ h1)) (fun M' i b x H2 H' hm ok' hb e2 y Qg qg => ?_) (fun H2 es e2 dd pr => ?_)
      · obtain ⟨rfl, hx⟩ := y
        obtain ⟨d', hd', dx⟩ := h3.get hx
        rw [List.getElem?_map, hb] at hd'
        cases hd'
        exact hs M' b x _ (fun v d h => (hm v d (h.ex (e.trans e1))).ex e2) ok' (List.mem_of_getElem? hb) ((e.trans e1).trans e2) ((hm _ _ dx).ex e2) Qg qg
      · cases dd with
        | lst w1 w2 w3 => exact q D _ es H2 (fresh_back e1 hD) (e1.trans e2) w1 w3 (by rw [paired_map pr, filter_all])
/-- a comprehension over two tuples, side by side -/
theorem evn_lcZT {β γ : Type} {bs : List β} {cs : List γ} (enc : β → PyData) (enc' : γ → PyData) (f : β → γ → Bool) (F : β → γ → PyData) {tx : TE} (ok : Ok M H) (hl : EvD K M tl σ H (.tuple (bs.map enc))) (hl2 : EvD K M tx σ H (.tuple (cs.map enc'))) (hz : bs.length < sizeLine)
    (hs : ∀ (M' : Addr → Prop) (i : Nat) (b : β) (c : γ) (x y : V) (T : Addr) (H' : Hp), (∀ v d, Dt K M H v d → Dt K M' H' v d) → Ok M' H' → bs[i]? = some b → cs[i]? = some c → Ex H H' → Dt K M' H' x (enc b) → Dt K M' H' y (enc' c) → H' T = some (.tup [x, y]) →
      ∀ Qg : L2.St → Hp → Prop, (∀ σ2 H2, Ex H' H2 → Turned K M' σ vs tt te (f b c) (· = F b c) σ2 H2 → Qg σ2 H2) → g (.ref T) (wipe σ vs) H' Qg) :
    EvNew K M (tLc (iZipA K (tCons tl (tCons tx tNil))) g tt te vs) σ H (· = ((bs.zip cs).filter fun p => f p.1 p.2).map fun p => F p.1 p.2) := fun H0 e Q q =>
  hl H0 e _ fun v d H1 e1 dv pd => hl2 H1 (e.trans e1) _ fun v' d' H2 e2 dv' pd' => by
    subst pd pd'
    have dv2 := dv.ex e2
    cases dv2 with
    | tup h1 h3 =>
    cases dv' with
    | tup k1 k3 =>
      rename_i a xs b ys
      refine ⟨a, b, xs, ys, rfl, .inr ⟨SqT.of h1, SqT.of k1, fun D hD => ?_⟩⟩
      have l1 := h3.length
      have l2 := k3.length
      rw [List.length_map] at l1 l2
      have e02 := e1.trans e2
      refine lc_data (K := K) (σ := σ) (vs := vs) (bs.zip cs) (walk_zipT (K := K) (a := a) (b := b) (xs := xs) (ys := ys) (by rw [List.length_zip, l1, l2])) ((ok.ex (e.trans e02))) hD (Nat.lt_of_le_of_lt (by rw [List.length_zip]; exact Nat.min_le_left _ _) hz) (fun p => f p.1 p.2) (fun p e => e = F p.1 p.2) (fun H e => ⟨SqT.of (e _ _ h1), SqT.of (e _ _ k1)⟩) (fun M' i p x H3 H' hm ok' hp e3 y Qg qg => ?_) (fun H3 es e3 dd pr => ?_)
      · obtain ⟨T, x0, y0, rfl, hT, rfl, hx, hy⟩ := y
        obtain ⟨hb, hc⟩ : bs[i]? = some p.1 ∧ cs[i]? = some p.2 := List.getElem?_zip_eq_some.mp hp
        obtain ⟨d1, hd1, dx⟩ := h3.get hx
        rw [List.getElem?_map, hb] at hd1
        cases hd1
        obtain ⟨d2, hd2, dy⟩ := k3.get hy
        rw [List.getElem?_map, hc] at hd2
        cases hd2
        have e4 : Ex H3 (upd H3 T (.tup [x0, y0])) := Ex.new hT
        exact hs M' i p.1 p.2 x0 y0 T _ (fun v d h => (hm v d (h.ex (e.trans e02))).ex (e3.trans e4)) (ok'.ex e4) hb hc (((e.trans e02).trans e3).trans e4) ((hm _ _ dx).ex (e3.trans e4)) ((hm _ _ dy).ex (e3.trans e4)) upd_same Qg fun σ2 H5 e5 T5 => qg σ2 H5 (e4.trans e5) T5
      · cases dd with
        | lst w1 w2 w3 => exact q D _ es H3 (fresh_back e02 hD) (e02.trans e3) w1 w3 (paired_map pr)
/-- sorted({e for x in list if ..}), fewer than 64 of them: their numbers, rising -/
theorem evp_sortedSc {β : Type} {w : World} {bs : List β} (enc : β → PyData) (f : β → Bool) (F : β → Int) (ok : Ok M H) (hl : EvD K M tl σ H (.list (bs.map enc))) (hz : bs.length < 60)
    (hs : ∀ (M' : Addr → Prop) (b : β) (x : V) (H' : Hp), (∀ v d, Dt K M H v d → Dt K M' H' v d) → Ok M' H' → b ∈ bs → Ex H H' → Dt K M' H' x (enc b) →
      ∀ Qg : L2.St → Hp → Prop, (∀ σ2 H2, Ex H' H2 → Turned K M' σ vs tt te (f b) (· = .int (F b)) σ2 H2 → Qg σ2 H2) → g x (wipe σ vs) H' Qg) :
    EvNew K M (tCB (rSortedSet w) (tCons (tScO w (iList K tl) g tt te vs) tNil)) σ H (fun ds => ∃ ns : List Int, ds = ns.map PyData.int ∧ ns.Pairwise (· < ·) ∧ ∀ k, k ∈ ns ↔ ∃ b ∈ bs, f b = true ∧ F b = k) := fun H0 e Q q =>
  hl H0 e _ fun v d H1 e1 dv pd => by
    subst pd
    cases dv with
    | lst h1 h2 h3 =>
      rename_i a xs
      have l3 := h3.length
      rw [List.length_map] at l3
      refine ⟨a, rfl, ⟨xs, sq_of h1⟩, fun D hD => ?_⟩
      have okD : ∀ {H}, Ex H1 H → H D ≠ none → Ok (TH.more M D) H := fun {H} e2 n l m => by
        rcases m with m | rfl
        · exact (ok.ex ((e.trans e1).trans e2)) l m
        · exact n
      have fin : ∀ (T : List Int), ∃ S : Int → Bool, S = fun j => decide (j ∈ T) := fun T => ⟨_, rfl⟩
      refine ⟨fun i m H => m = bs.length - i ∧ i ≤ bs.length ∧ Ex H1 H ∧ ∃ n, n ≤ i ∧ H D = some (SetO w D (fun j => decide (j ∈ ((bs.take i).filter f).map F)) n),
        ⟨bs.length, by simp, Nat.zero_le _, Ex.new hD, 0, Nat.le_refl _, ?_⟩, ?_⟩
      · exact upd_same
      rintro i m H2 ⟨rfl, hi, e2, n, hn, hset⟩
      by_cases hlt : i < bs.length
      · refine .inr ⟨⟨xs, xs[i]'(by omega), sq_of (e2 _ _ h1), by simp⟩, fun H' => Ex H1 H' ∧ ∃ n, n ≤ i + 1 ∧ H' D = some (SetO w D (fun j => decide (j ∈ ((bs.take (i + 1)).filter f).map F)) n), fun H' p' => ⟨bs.length - (i + 1), by omega, rfl, hlt, p'⟩, fun x H' y => ?_⟩
        obtain ⟨rfl, hx⟩ := y
        have hx := hx xs (sq_of (e2 _ _ h1))
        obtain ⟨d, hd, dx⟩ := h3.get hx
        have hb : bs[i]? = some (bs[i]'hlt) := List.getElem?_eq_getElem _
        generalize bs[i]'hlt = b at hb
        rw [List.getElem?_map, hb] at hd
        cases hd
        have tk : (bs.take (i + 1)).filter f = (bs.take i).filter f ++ (if f b = true then [b] else []) := by
          rw [List.take_add_one, hb, List.filter_append]
          congr 1
          show List.filter f [b] = _
          cases hf : f b <;> simp [hf]
        refine hs (TH.more M D) b x _ (fun v d h => ((h.ex (e.trans e1)).more hD).ex e2) (okD e2 (by rw [hset]; simp)) (List.mem_of_getElem? hb) ((e.trans e1).trans e2) ((dx.more hD).ex e2) _ fun σ2 H3 e3 T => ?_
        obtain ⟨hw, ht, he⟩ := T
        refine ⟨hw, ht H3 (Ex.refl _) _ fun H4 e4 => ?_⟩
        cases hf : f b with
        | true =>
          rw [hf] at he
          refine iteT (he rfl H4 e4 _ fun y d H5 e5 dy py => ?_)
          subst py
          cases dy
          have e35 := (e3.trans e4).trans e5
          refine ⟨F b, _, n, rfl, e35 _ _ hset, ?_, Ex.mut (e2.trans e35) hD, if decide (F b ∈ ((bs.take i).filter f).map F) = true then n else n + 1, ?_, ?_⟩
          · have h3 : (2000 : Nat) < scanBound := by decide
            omega
          · split <;> omega
          · rw [upd_same]
            congr 2
            funext j
            rw [tk, if_pos hf, List.map_append]
            simp only [List.map_cons, List.map_nil, List.mem_append, List.mem_singleton, Bool.decide_or]
        | false =>
          refine iteF ⟨e2.trans (e3.trans e4), n, by omega, ?_⟩
          rw [tk, hf, if_neg (by decide), List.append_nil]
          exact (e3.trans e4) _ _ hset
      · have ei : i = bs.length := by omega
        subst ei
        refine .inl ⟨⟨xs, sq_of (e2 _ _ h1), by omega⟩, ?_⟩
        rw [List.take_length] at hset
        refine ⟨D, _, n, rfl, hset, by omega, fun ns p hs1 hs2 hs3 hp => ?_⟩
        refine q p _ (ns.map PyData.int) _ (fresh_back (e1.trans e2) hp) ((e1.trans e2).trans (Ex.new hp)) upd_same (Dts.of_ints ns) ⟨ns, rfl, hs1, fun k => ?_⟩
        rw [hs2 k, decide_eq_true_eq, List.mem_map]
        constructor
        · rintro ⟨b, hb, rfl⟩
          obtain ⟨h1, h2⟩ := List.mem_filter.mp hb
          exact ⟨b, h1, h2, rfl⟩
        · rintro ⟨b, hb, h1, rfl⟩
          exact ⟨b, List.mem_filter.mpr ⟨hb, h1⟩, rfl⟩
/-- tuple(..) of a list of ints -/
theorem evd_tupOf {ns : List Int} {ta : TA} (h : EvDA K M ta σ H [listI ns]) : EvD K N (tCB (fun xs H Q => ∃ p ys, xs = [.ref p] ∧ ((SqL K H p ys ∧ ∀ t, H t = none → Q (.ref t) (upd H t (.tup ys))) ∨ (SqT K H p ys ∧ Q (.ref p) H))) ta) σ H (tupI ns) := fun H1 e Q q =>
  h H1 e _ fun vs es H2 e2 dv pd => by
    subst pd
    cases dv with
    | cons h1 h2 =>
      cases h2
      cases h1 with
      | lst k1 k2 k3 => exact ⟨_, _, rfl, .inl ⟨sq_of k1, fun t ht => q _ _ _ (e2.trans (Ex.new ht)) (.tup upd_same (by rw [k3.ints]; exact Dts.of_ints ns)) rfl⟩⟩
end
end TH
set_option maxRecDepth 100000
set_option maxHeartbeats 4000000
namespace TH
open PySem PySem.Spec PyProof.Rows L2 Evl NdefX LamX
abbrev sPaired : Stmt := top 26
abbrev sPLead : Stmt := (defBody sPaired).getD 0 (.Pass ⟨0, 0, 0, 0⟩)
def pD (p : Nat × Nat) : PyData := tupI [(p.1 : Int), (p.2 : Int)]
/-- the two readers' lead, of pairs -/
def spPLead (K : PySem.W.Frag) (CB CR : Addr) : List (Option V) → Sp := fun ws vs H Q _ => ∃ (p1 p2 : Addr) (S : List Sg) (R1 R2 : Pl) (s : Nat) (z : V) (k : List (Nat × Nat)), ws = [some (.ref p1), some (.ref p2)] ∧ vs = [.int (s : Int), z] ∧ ReadAt K CB CR MF H p1 S R1 ∧ ReadAt K CB CR MF H p2 S R2 ∧ Dt K MF H z (.tuple (k.map pD)) ∧
  GoodR S R1 ∧ GoodR S R2 ∧ KidsOk S ∧ s < S.length ∧ k.length = ks S s ∧ (∀ x ∈ k, x.1 < R1.moods ∧ x.2 < R2.moods) ∧ ∀ x H', Ex H H' → Dt K MT H' x (pD (ledN R1 s (k.map (·.1)), ledN R2 s (k.map (·.2)))) → Q x H'
def FPL (F : NF) : Prop := ∃ (q : Str) (cl : List (Str × Addr)) (c : Addr), F = NF.of sPLead "lead" q cl c
section
variable {K : PySem.W.Frag} {M M' : Addr → Prop} {H H1 H' : Hp} {σ : L2.St} {ta tb te : TE} {E : XK} {CB CR p : Addr} {S : List Sg} {R : Pl}
theorem evd_rleadM {j s : Nat} {k : List Nat} (hs : σ[j]? = some (some (.ref p))) (hR : ReadAt K CB CR MF H p S R) (g : GoodR S R) (hK : KidsOk S) (ha : EvD K MF ta σ H (.int (s : Int))) (hb : EvD K MF tb σ H (tupI (ofN k))) (hsl : s < S.length) (hk : k.length = ks S s) (hm : ∀ x ∈ k, x < R.moods) :
    EvD K M (tMeth CR "lead" (spRLead K CB CR) [] E (tVar j) (tCons ta (tCons tb tNil))) σ H (.int (ledN R s k : Int)) := fun H1 e Q q => by
  have h := hR.ex e
  have h0 := h
  obtain ⟨dx, pb, lt, ll, h1, _⟩ := h0
  refine ⟨_, hs, p, dx, _, rfl, h1, rflds_no _ _ _ _ (by decide +kernel) (by decide +kernel) (by decide +kernel) (by decide +kernel), ha H1 e _ fun v d H2 e2 dv pd => hb H2 (e.trans e2) _ fun v' d' H3 e3 dv' pd' => ?_⟩
  subst pd pd'
  cases dv
  exact ⟨MF, p, S, R, s, v', k, rfl, (h.ex e2).ex e3, dv', g, hK, hsl, hk, hm, fun H4 e4 => q _ _ H4 ((e2.trans e3).trans e4) (.int _) rfl⟩
end
section
variable {P : Program} {w : World} {K : PySem.W.Frag} {mg : Str → Option Value} {base : Heap} {CB CR : Addr}
abbrev nPLead : List Str := ["sign", "kids", "one", "other", "here", "there", "kid"]
theorem scPLead : NScope nPLead ["sign", "kids"] ["one", "other"] (C8.fnScope sPLead) := nscope_by (by decide +kernel)
theorem nok_plead (GU : GlobU mg) (T : ReadT K mg CR) (B : OneM P w K mg base CR "lead" 2 ["self", "sign", "kids"] (spRLead K CB CR)) (f : Addr) (F : NF) (hF : FPL F) : NOk P w K mg base CX0 3 f F ["sign", "kids"] ["one", "other"] (spPLead K CB CR) := by
  obtain ⟨qn, cl, c, rfl⟩ := hF
  obtain ⟨f1, d1, m1, g1, b1⟩ := B
  refine nok_of (N := nPLead) (k := 2) scPLead (fun doc pm ctv us hl => match us, hl with | [_, _], _ => rfl) (fun ws vs H Q E h => ?_) (fun A outer s0 H vs ws Q E hr hf hc hl h => ?_)
  · obtain ⟨p1, p2, S, R1, R2, s, z, k, _, rfl, _⟩ := h
    rfl
  · obtain ⟨p1, p2, S, R1, R2, s, z, k, rfl, rfl, hR1, hR2, hz, gR1, gR2, hK, hs, hk, hm, q⟩ := h
    refine ⟨_, (pss_cons (ps_set (i := 4) scPLead.nd rfl (.inl rfl) (pe_meth (pv 2) T.cl m1 g1 hr b1 .nil pass0 (pa_cons (pv 0) (pa_cons (pe_callTy call_tuple_of (by rfl) GU.tuple (by decide +kernel) (pa_cons (pe_lc (own := [("kid", 6)]) (g := gName 6) (tt := tYes) rfl scPLead.nd (pi_tup (pv 1))
      (blkOk_by (N := nPLead) (sc := C8.fnScope sPLead) (by decide +kernel)) (fun _ _ _ _ _ => pg_name (i := 6) scPLead.nd rfl (.inl rfl)) (fun _ _ _ _ _ => pts_nil)
      (fun _ _ _ _ _ => pe_ix (ix_tupK (K := K) rfl) (pv 6) pe_int (fun _ _ => rfl))) pa_nil)) pa_nil))))
      (pss_cons (ps_set (i := 5) scPLead.nd rfl (.inl rfl) (pe_meth (pv 3) T.cl m1 g1 hr b1 .nil pass0 (pa_cons (pv 0) (pa_cons (pe_callTy call_tuple_of (by rfl) GU.tuple (by decide +kernel) (pa_cons (pe_lc (own := [("kid", 6)]) (g := gName 6) (tt := tYes) rfl scPLead.nd (pi_tup (pv 1))
      (blkOk_by (N := nPLead) (sc := C8.fnScope sPLead) (by decide +kernel)) (fun _ _ _ _ _ => pg_name (i := 6) scPLead.nd rfl (.inl rfl)) (fun _ _ _ _ _ => pts_nil)
      (fun _ _ _ _ _ => pe_ix (ix_tupK (K := K) rfl) (pv 6) pe_int (fun _ _ => rfl))) pa_nil)) pa_nil))))
      (pss_one (ps_ret (pe_tup (pa_cons (pv 4) (pa_cons (pv 5) pa_nil))))))), ?_⟩
    have hlz : k.length < sizeLine := by rw [hk]; exact Nat.lt_of_le_of_lt (ks_le hK s) (by decide)
    have enc1 : ∀ (f : Nat × Nat → Nat), k.map (fun p => PyData.int (f p : Int)) = (ofN (k.map f)).map PyData.int := fun f => by
      unfold ofN
      rw [List.map_map, List.map_map]
      rfl
    refine q_asgP (K := K) (M := MF) (evd_rleadM (j := 2) (s := s) (k := k.map (·.1)) rfl hR1 gR1 hK (evd_var (i := 0) rfl (.int _)) (evd_tupOf (M := MF) (eva_cons (((evn_lcTM (K := K) (M := MF) (bs := k) pD (fun p => .int (p.1 : Int)) okF (evd_var (i := 1) rfl hz) hlz fun M' b x H' hM ok' hb e dx Qg qg => ?_).data okF).mono fun d hd => ?_) eva_nil)) hs (by rw [List.length_map, hk]) fun x hx => ?_) fun v4 d4 H1 e1 dv4 p4 => ?_
    · exact qg _ H' (Ex.refl _) ⟨rfl, evt_yes, fun _ => evd_ixT (j := 0) (ds := [.int (b.1 : Int), .int (b.2 : Int)]) (evd_var (i := 6) rfl dx) evd_int rfl rfl⟩
    · obtain ⟨ds, rfl, rfl⟩ := hd
      rw [enc1 (·.1)]
      rfl
    · obtain ⟨y, hy, rfl⟩ := List.mem_map.mp hx
      exact (hm y hy).1
    subst p4
    cases dv4
    refine q_asgP (K := K) (M := MF) (evd_rleadM (j := 3) (s := s) (k := k.map (·.2)) rfl (hR2.ex e1) gR2 hK (evd_var (i := 0) rfl (.int _)) (evd_tupOf (M := MF) (eva_cons (((evn_lcTM (K := K) (M := MF) (bs := k) pD (fun p => .int (p.2 : Int)) okF (evd_var (i := 1) rfl (hz.ex e1)) hlz fun M' b x H' hM ok' hb e dx Qg qg => ?_).data okF).mono fun d hd => ?_) eva_nil)) hs (by rw [List.length_map, hk]) fun x hx => ?_) fun v5 d5 H2 e2 dv5 p5 => ?_
    · exact qg _ H' (Ex.refl _) ⟨rfl, evt_yes, fun _ => evd_ixT (j := 1) (ds := [.int (b.1 : Int), .int (b.2 : Int)]) (evd_var (i := 6) rfl dx) evd_int rfl rfl⟩
    · obtain ⟨ds, rfl, rfl⟩ := hd
      rw [enc1 (·.2)]
      rfl
    · obtain ⟨y, hy, rfl⟩ := List.mem_map.mp hx
      exact (hm y hy).2
    subst p5
    cases dv5
    refine s_retP (K := K) (M := MT) (evd_tup (eva_cons (evd_var (i := 4) rfl (.int _)) (eva_cons (evd_var (i := 5) rfl (.int _)) eva_nil)) (by show 2 ≤ sizeLine; decide)) fun x d H3 e3 dx pd => ?_
    subst pd
    exact q x H3 ((e1.trans e2).trans e3) dx
abbrev nPaired : List Str := ["one", "other", "lead"]
theorem scPaired : FnScope nPaired ["one", "other"] (defScope sPaired) := ⟨rfl, rfl, rfl, by decide +kernel, rfl, by decide +kernel, by decide +kernel⟩
/-- two values are handed in: the function that holds them comes out -/
def spPaired (T : List NTab) : Sp := fun vs H Q _ => ∃ v1 v2, vs = [v1, v2] ∧ TabsN T H ∧ ∀ (f : Addr) (F : NF) (H' : Hp), ExtN H H' → (∀ b, H' b = none → H b = none) → TabsN T H' → H f = none → FPL F → CloAt H' f F ["one", "other"] [v1, v2] → Q (.ref f) H'
theorem ok_paired {T : List NTab} {nm : Nat → Nat → Str} {f c Pt : Addr} {oc : Value} {od an : Option Addr} {osl : Array (Option Value)} {dV kV doc pm ct : Value}
    (lk : K.lookup f = some ⟨oc, od, .func (PySem.W.fnOf "paired" "paired" (defArgs sPaired) (defBody sPaired) (defScope sPaired) dV kV doc pm an (.ref c) ct), osl⟩) (hcd : PySem.W.codeIn K (.ref c) "paired" = true)
    (TB : TabB base mg c Pt) (hm : (Pt, nm) ∈ T) (hu : ∀ p ∈ T, p.1 = Pt → p.2 = nm) (hn : ∀ i j, nm i j = "paired.<locals>.lead") :
    FnOk P w K mg base CX0 1 f (PySem.W.fnOf "paired" "paired" (defArgs sPaired) (defBody sPaired) (defScope sPaired) dV kV doc pm an (.ref c) ct) ["one", "other"] (spPaired T) := by
  refine fn_ofN (k := 0) (st := sPLead) (x := "lead") (i := 2) lk hcd scPaired (fun vs H Q E h => ?_) rfl rfl (.inl rfl) fun A outer s H vs Q E hr h => ?_
  · obtain ⟨v1, v2, rfl, _⟩ := h
    rfl
  · obtain ⟨v1, v2, rfl, hT, q⟩ := h
    have hfree : ∀ y ∈ (C8.fnScope sPLead).names, y.2 = .free → (defScope sPaired).names.lookup y.1 = some .cell ∨ (defScope sPaired).names.lookup y.1 = some .free := ndef_free (fr := (["one", "other"] : List Str)) (by decide +kernel)
    have hfr : ∀ y ∈ (["one", "other"] : List Str), (y, NameKind.free) ∈ (C8.fnScope sPLead).names := ndef_fr (sc := defScope sPaired) (nsc := C8.fnScope sPLead) (fr := (["one", "other"] : List Str)) (by decide +kernel)
    refine ⟨_, fun σ' v H' => ∃ f' c', v = .ref f' ∧ σ' = [some v1, some v2, some (.ref f')] ∧ ExtN H H' ∧ (∀ b, H' b = none → H b = none) ∧ TabsN T H' ∧ H f' = none ∧ H' f' = some (FnO f' (NF.of sPLead "lead" _ _ c')) ∧ H' c' = some (CodeO c' (NF.of sPLead "lead" _ _ c').qual),
      ps_ndefMS (st := sPLead) (T := T) (nm := nm) (c := c) (P := Pt) (name := "lead") (i := 2) rfl TB rfl hm (hn _ _) hu hfree rfl rfl rfl scPaired.nd rfl (.inl rfl) (.inr rfl), ⟨hT, fun f' c' H1 e1 n1 T1 f0 f1 c1 => ⟨_, rfl, f', c', rfl, rfl, e1, n1, T1, f0, f1, c1⟩⟩, ?_⟩
    rintro σ' v u H' s' J hv rv ⟨f', c', rfl, rfl, e1, n1, T1, f0, f1, c1⟩
    have hnn : ∀ H2 : Hp, Ex H' H2 → ∀ b, H2 b = none → H b = none := fun H2 e2 b hb => n1 b (by
      cases h : H' b with
      | none => rfl
      | some o =>
        rw [e2 _ _ h] at hb
        cases hb)
    obtain ⟨H2, un, hok, hq⟩ := clo_fin (Q := Q) (ws := [v1, v2]) (js := [0, 1]) J (Caps.made J.ok hfree hfr rfl) (fun x c h => J.ok.cab x c rfl h) f1 c1 rfl fun H2 e2 hc => q f' _ H2 (fun b o h n => e2 _ _ (e1 b o h n)) (hnn H2 e2) (T1.ext e2) f0 ⟨_, _, _, rfl⟩ hc
    exact ⟨.ref f', H2, J.os, J.bare, un, hok, rv, hq⟩
end
end TH
set_option maxRecDepth 100000
set_option maxHeartbeats 4000000
namespace TH
open PySem L2 Evl
abbrev sClosed : Stmt := top 23
abbrev keyP (p : Nat × Nat) : List L2.Key := [.inl (p.1 : Int), .inl (p.2 : Int)]
theorem keyP_inj {p q : Nat × Nat} (h : keyP p = keyP q) : p = q := by
  obtain ⟨a, b⟩ := p
  obtain ⟨c, d⟩ := q
  simp only [keyP, List.cons.injEq, Sum.inl.injEq, and_true] at h
  have h1 : a = c := by omega
  have h2 : b = d := by omega
  rw [h1, h2]
def kvP (ks : List (Nat × Nat)) : List (List L2.Key × V) := ks.map fun p => (keyP p, V.bl true)
theorem valV_kvP (ks : List (Nat × Nat)) (p : Nat × Nat) : valV (kvP ks) (keyP p) = if p ∈ ks then some (.bl true) else none := by
  induction ks with
  | nil => rfl
  | cons q ks ih =>
    by_cases e : q = p
    · subst e
      rw [if_pos List.mem_cons_self]
      exact valV_pos (p := (keyP q, V.bl true)) rfl
    · have h : valV (kvP (q :: ks)) (keyP p) = valV (kvP ks) (keyP p) := valV_neg (p := (keyP q, V.bl true)) fun z => e (keyP_inj z)
      rw [h, ih]
      by_cases hm : p ∈ ks
      · rw [if_pos hm, if_pos (List.mem_cons_of_mem _ hm)]
      · rw [if_neg hm, if_neg fun z => (List.mem_cons.mp z).elim (fun z => e z.symm) hm]
theorem putK_kvP (ks : List (Nat × Nat)) (p : Nat × Nat) : putK (kvP ks) (keyP p) (.bl true) = kvP (if p ∈ ks then ks else ks ++ [p]) := by
  by_cases hm : p ∈ ks
  · rw [if_pos hm]
    unfold putK
    rw [valV_any, valV_kvP, if_pos hm, if_pos (show (some (V.bl true)).isSome = true from rfl)]
    unfold kvP
    rw [List.map_map]
    apply List.map_congr_left
    intro q _
    show (if keyP q = keyP p then (keyP q, V.bl true) else (keyP q, V.bl true)) = _
    split <;> rfl
  · rw [if_neg hm, putK_new _ (by rw [valV_kvP, if_neg hm])]
    unfold kvP
    rw [List.map_append]
    rfl
/-- what leads on stays among the states -/
def ClosedP (S : List Sg) (F : Nat → List (Nat × Nat) → Nat × Nat) (ps : List (Nat × Nat)) : Prop := ∀ s, s < S.length → ∀ k : List (Nat × Nat), k.length = ks S s → (∀ x ∈ k, x ∈ ps) → F s k ∈ ps
def spClosed (K : PySem.W.Frag) (CB : Addr) (spc : Addr → Sp) : Sp := fun vs H Q _ => ∃ (pb q : Addr) (o : HO) (v : V) (S : List Sg) (F : Nat → List (Nat × Nat) → Nat × Nat) (ps : List (Nat × Nat)), vs = [.ref pb, .ref q, v] ∧ BookAt CB MF H pb S ∧ KidsOk S ∧ S.length ≤ 100 ∧ H q = some o ∧ CalO K q o ∧ Dt K MF H v (.list (ps.map pD)) ∧ ps.length ≤ 250 ∧
  (∀ (s : Nat) (k : List (Nat × Nat)) (z : V) (H' : Hp) (Q' : VK) (E' : XK), Ex H H' → s < S.length → k.length = ks S s → (∀ x ∈ k, x ∈ ps) → Dt K MF H' z (.tuple (k.map pD)) → (∀ x H2, Ex H' H2 → Dt K MT H2 x (pD (F s k)) → Q' x H2) → spc q [.int (s : Int), z] H' Q' E') ∧
  ∀ (b : Bool) (H' : Hp), Ex H H' → (b = true ↔ ClosedP S F ps) → Q (.bl b) H'
theorem keys_dts {K : PySem.W.Frag} {M : Addr → Prop} {H : Hp} : ∀ {ks : List (Nat × Nat)} {bs : List Addr}, IsKeys H (kvP ks) bs → Dts K M H (bs.map V.ref) (ks.map pD)
  | [], bs, h => by
    cases h
    exact .nil
  | p :: ks, bs, h => by
    cases h with
    | cons h1 h2 => exact .cons (dt_of_tup (ns := [(p.1 : Int), (p.2 : Int)]) h1) (keys_dts h2)
section
variable {P : Program} {w : World} {K : PySem.W.Frag} {mg : Str → Option Value} {base : Heap} {CB : Addr} {spc : Addr → Sp}
abbrev nClosed : List Str := ["book", "lead", "states", "known", "state", "sign", "kids"]
theorem scClosed : FnScope nClosed ["book", "lead", "states"] (defScope sClosed) := ⟨rfl, rfl, rfl, by decide +kernel, rfl, by decide +kernel, by decide +kernel⟩
theorem ok_closed {f : Addr} {fd : FuncData} (F : Fun K "is_closed" "is_closed" sClosed f fd) (G : Glob mg) (GY : GlobY mg) (B : BookK P w K mg base CB) (B1 : OneF P w K mg base "choices" 2 ["things", "kids"] (spChoices K)) (Fn : Cal P w K mg base 3 spc) :
    FnOk P w K mg base CX0 4 f fd ["book", "lead", "states"] (spClosed K CB spc) := by
  obtain ⟨T, ⟨f2, d2, m2, g2, b2⟩, ⟨f3, d3, m3, g3, b3⟩⟩ := B
  obtain ⟨f1, d1, m1, k1, g1, b1⟩ := B1
  refine F.ok scClosed (fun vs H Q E h => ?_) (fun cdv A outer s0 H vs Q E hr h => ?_)
  · obtain ⟨pb, q, o, v, S, F, ps, rfl, _⟩ := h
    rfl
  · obtain ⟨pb, q, o, v, S, F, ps, rfl, hB, hK, hS100, hq, hco, hv, hps, hlead, qr⟩ := h
    have hr1 : Room 1 _ := hr.mono (show 1 ≤ 3 by decide)
    have hr2 : Room 2 _ := hr.mono (show 2 ≤ 3 by decide)
    have hu := hu64 hr
    refine ⟨_, pss_cons (ps_setDcT (i := 3) (own := [("state", 4)]) (g := gName 4) (tt := tYes) (Nat.lt_of_le_of_lt (Nat.le_add_right _ 64) hu) rfl scClosed.nd rfl rfl (sw_trueD rfl rfl rfl (by decide +kernel)) (pi_list (pv 2))
        (blkOk_by (N := nClosed) (sc := defScope sClosed) (by decide +kernel)) (fun _ _ _ _ _ => pg_name (i := 4) scClosed.nd rfl (.inl rfl)) (fun _ _ _ _ _ => pts_nil) (fun _ _ _ _ _ => pv 4) (fun _ _ _ _ _ => pe_bl))
      (pss_cons (ps_for PassesOwn.never rfl (pi_range1 rfl G.range (pa_cons (pe_meth0 (pv 0) T.cl m2 g2 hr1 b2 .nil pass0) pa_nil)) (pg_name (i := 5) scClosed.nd rfl (.inl rfl))
        (pss_one (ps_for PassesOwn.never rfl (pi_list (pe_call g1 hr2 rfl m1 k1 b1 .nil pass0 (pa_cons (pe_callTy (call_list_dT rfl) (by rfl) GY.list (by decide +kernel) (pa_cons (pv 3) pa_nil)) (pa_cons (pe_meth (pv 0) T.cl m3 g3 hr1 b3 .nil pass0 (pa_cons (pv 5) pa_nil)) pa_nil)))) (pg_name (i := 6) scClosed.nd rfl (.inl rfl))
          (pss_one (ps_if (pt_cmp (pc_dnotin (Nat.lt_of_le_of_lt (Nat.add_le_add_left (show 1 ≤ 64 by decide) _) hu) (pe_callV (E := E) (pv 1) Fn hr (pa_cons (pv 5) (pa_cons (pv 6) pa_nil))) (pv 3))) (pss_one (ps_ret pe_bl)) pss_nil)))))
      (pss_one (ps_ret pe_bl))), ?_⟩
    obtain ⟨a, xs, rfl, h1, h3⟩ : ∃ a xs, v = .ref a ∧ H a = some (.lst xs) ∧ Dts K MF H xs (ps.map pD) := by
      cases hv with
      | lst h1 h2 h3 => exact ⟨_, _, rfl, h1, h3⟩
    have hxl : xs.length = ps.length := by rw [h3.length, List.length_map]
    refine ⟨_, rfl, a, rfl, ⟨xs, sq_of h1⟩, fun D hD => ?_⟩
    refine ⟨fun i m H' => m = ps.length - i ∧ i ≤ ps.length ∧ Ex H H' ∧ ∃ kn : List (Nat × Nat), H' D = some (.dT (kvP kn)) ∧ kn.length ≤ i ∧ ∀ p, p ∈ kn ↔ p ∈ ps.take i, ⟨ps.length, by simp, Nat.zero_le _, Ex.new hD, [], upd_same, Nat.le_refl _, fun p => by rw [List.take_zero]⟩, ?_⟩
    rintro i m H1 ⟨rfl, hi, e1, kn, hkn, hkl, hkm⟩
    by_cases hlt : i < ps.length
    · refine .inr ⟨⟨xs, xs[i]'(by omega), sq_of (e1 _ _ h1), by simp⟩, fun H' => Ex H H' ∧ ∃ kn : List (Nat × Nat), H' D = some (.dT (kvP kn)) ∧ kn.length ≤ i + 1 ∧ ∀ p, p ∈ kn ↔ p ∈ ps.take (i + 1), fun H' p' => ⟨ps.length - (i + 1), by omega, rfl, hlt, p'⟩, fun x H' y => ?_⟩
      obtain ⟨rfl, hx⟩ := y
      have hx := hx xs (sq_of (e1 _ _ h1))
      obtain ⟨d, hd, dx⟩ := h3.get hx
      have hp : ps[i]? = some (ps[i]'hlt) := List.getElem?_eq_getElem hlt
      generalize ps[i]'hlt = p at hp
      rw [List.getElem?_map, hp] at hd
      cases hd
      obtain ⟨t, rfl, ht⟩ := dt_tupS dx
      show DictTurnT D _ _ tYes (tVar 4) (tC (.bl true)) _ _ _
      unfold DictTurnT
      refine ⟨rfl, iteT (B := Ex H H' ∧ ∃ kn : List (Nat × Nat), H' D = some (.dT (kvP kn)) ∧ kn.length ≤ i + 1 ∧ ∀ p, p ∈ kn ↔ p ∈ ps.take (i + 1)) ⟨_, rfl, kvP kn, keyP p, t, rfl, hkn, e1 _ _ ht, ?_, Ex.mut e1 hD, if p ∈ kn then kn else kn ++ [p], ?_, ?_, fun r => ?_⟩⟩
      · show (kn.map _).length < _
        rw [List.length_map]
        exact Nat.lt_of_le_of_lt (show kn.length ≤ 250 by omega) (by decide)
      · rw [upd_same, putK_kvP]
      · split
        · omega
        · rw [List.length_append]
          show kn.length + 1 ≤ i + 1
          omega
      · have tk : ps.take (i + 1) = ps.take i ++ [p] := by rw [List.take_add_one, hp]; rfl
        rw [tk, List.mem_append, List.mem_singleton, ← hkm]
        split
        · rename_i hin
          exact ⟨.inl, fun z => z.elim id fun e => by rw [e]; exact hin⟩
        · rw [List.mem_append, List.mem_singleton]
    have ei : i = ps.length := by omega
    subst ei
    rw [List.take_length] at hkm
    refine .inl ⟨⟨xs, sq_of (e1 _ _ h1), by omega⟩, ?_⟩
    refine q_forR1 (n := (S.length : Int)) (ea_cons (ev_ofI (K := K) (M := MF) (evd_many (i := 0) rfl (hB.ex e1))) ea_nil) (by omega)
      (fun i σ' H' => Ex H H' ∧ H' D = some (.dT (kvP kn)) ∧ (∀ s, s < i → ∀ k : List (Nat × Nat), k.length = ks S s → (∀ x ∈ k, x ∈ ps) → F s k ∈ ps) ∧ ∃ u5 u6, σ' = [some (.ref pb), some (.ref q), some (.ref a), some (.ref D), none, u5, u6])
      (fun H2 e2 => ⟨e1.trans e2, e2 _ _ hkn, fun s h => absurd h (Nat.not_lt_zero s), none, none, rfl⟩) ?_ ?_
    · rintro s σ' H2 hs ⟨e2, hk2, done, u5, u6, rfl⟩
      have hsS : s < S.length := by omega
      have hSs : S[s]? = some (S[s]'hsS) := List.getElem?_eq_getElem hsS
      have hkk := hK _ (List.mem_of_getElem? hSs)
      have hks2 := ks_le hK s
      refine ⟨_, rfl, D, kvP kn, rfl, .inl hk2, fun p bs hp hbs => ?_⟩
      have e23 : Ex H2 (upd H2 p (.lst (bs.map V.ref))) := Ex.new hp
      have hp3 : (upd H2 p (.lst (bs.map V.ref))) p = some (.lst (bs.map V.ref)) := upd_same
      have dk := (keys_dts (K := K) (M := MF) hbs).ex e23
      generalize upd H2 p (.lst (bs.map V.ref)) = H3 at e23 hp3 dk
      refine (evd_kids (K := K) (M' := MF) (S := S) (i := 0) (j := s) (z := (s : Int)) (r := S[s]'hsS) rfl (hB.ex (e2.trans e23)) (evd_var (i := 5) rfl (.int _)) rfl hSs) H3 (Ex.refl _) _ fun vk dk' H4 e4 dvk pk => ?_
      subst pk
      cases dvk
      have ekn : (S[s]'hsS).2 = ((ks S s : Nat) : Int) := by rw [ks_of hSs, Int.toNat_of_nonneg hkk.1]
      refine ⟨MF, .ref p, kn.map pD, ks S s, by rw [ekn]; rfl, okF, .lst (e4 _ _ hp3) (fun z => z) (dk.ex e4), by rw [List.length_map]; omega, hks2, fun l refs H5 hl e5 hl5 dr => ?_⟩
      have e25 := (e23.trans e4).trans e5
      have e05 := e2.trans e25
      rw [chsG_map, List.map_map] at dr
      have hrl : refs.length = (chsG kn (ks S s)).length := by rw [dr.length, List.length_map]
      refine ⟨l, rfl, ⟨_, sq_of hl5⟩, for_list (K := K) (a := l) (xs := refs) (fun j σ' H' => Ex H H' ∧ H' D = some (.dT (kvP kn)) ∧ Ex H5 H' ∧ (∀ k ∈ (chsG kn (ks S s)).take j, F s k ∈ ps) ∧ ∃ u6, σ' = [some (.ref pb), some (.ref q), some (.ref a), some (.ref D), none, some (.int (s : Int)), u6])
        ⟨e05, e25 _ _ hk2, Ex.refl _, fun k hk => (by rw [List.take_zero] at hk; exact (nomatch hk)), u6, rfl⟩ (fun j σ' H' _ h => sq_of (h.2.2.1 _ _ hl5)) ?_ ?_⟩
      · rintro j x σ' H6 hx ⟨e6, hk6, e56, dn, u6, rfl⟩
        obtain ⟨d, hd, dx⟩ := dr.get hx
        rw [List.getElem?_map] at hd
        cases hkj : (chsG kn (ks S s))[j]? with
        | none =>
          rw [hkj] at hd
          cases hd
        | some k =>
        rw [hkj] at hd
        cases hd
        obtain ⟨kl, km⟩ := chsG_row (List.mem_of_getElem? hkj)
        have kps : ∀ x ∈ k, x ∈ ps := fun x hx => (hkm x).mp (km x hx)
        have dx6 : Dt K MF H6 x (.tuple (k.map pD)) := dx.ex e56
        have ev : EvT (tB (tDNotIn (tCallV K spc E (tVar 1) (tCons (tVar 5) (tCons (tVar 6) tNil))) (tVar 3))) [some (.ref pb), some (.ref q), some (.ref a), some (.ref D), none, some (.int (s : Int)), some x] H6 (!decide (F s k ∈ ps)) := fun H7 e7 Q' q' => by
          have e07 := e6.trans e7
          refine ⟨_, rfl, q, o, rfl, e07 _ _ hq, hco, _, rfl, _, rfl, e07 _ _ hq, hlead s k x H7 _ _ e07 hsS kl kps (dx6.ex e7) fun y H8 e8 dy => ?_⟩
          obtain ⟨ty, rfl, hty⟩ := dt_tupS dy
          refine ⟨_, rfl, D, _, rfl, DGet.t (k := keyP (F s k)) (e8 _ _ (e7 _ _ hk6)) hty, _, rfl, ?_⟩
          have : (!(valV (kvP kn) (keyP (F s k))).isSome) = !decide (F s k ∈ ps) := by
            rw [valV_kvP]
            by_cases hin : F s k ∈ ps
            · rw [if_pos ((hkm _).mpr hin), decide_eq_true hin]
              rfl
            · rw [if_neg (fun z => hin ((hkm _).mp z)), decide_eq_false hin]
              rfl
          rw [this]
          exact q' H8 e8
        refine s_when ev (fun hb H7 e7 => ?_) (fun hb H7 e7 => ?_)
        · refine qr false H7 (e6.trans e7) ⟨fun z => (nomatch z), fun z => ?_⟩
          have := z s hsS k kl kps
          rw [decide_eq_true this] at hb
          cases hb
        · refine ⟨e6.trans e7, e7 _ _ hk6, e56.trans e7, fun k' hk' => ?_, some x, rfl⟩
          rw [List.take_add_one, hkj] at hk'
          rcases List.mem_append.mp hk' with h | h
          · exact dn k' h
          · rw [List.mem_singleton.mp h]
            exact Classical.byContradiction fun hn => by
              rw [decide_eq_false hn] at hb
              cases hb
      · rintro σ' H6 ⟨e6, hk6, e56, dn, u6, rfl⟩
        rw [hrl, List.take_length] at dn
        refine ⟨e6, hk6, fun s' hs' k kl kps => ?_, _, u6, rfl⟩
        by_cases e : s' = s
        · subst e
          exact dn k (mem_chsG kl fun x hx => (hkm x).mpr (kps x hx))
        · exact done s' (by omega) k kl kps
    · rintro σ' H2 ⟨e2, hk2, done, u5, u6, rfl⟩
      rw [Int.toNat_natCast] at done
      exact qr true H2 e2 ⟨fun _ s hs k kl kps => done s hs k kl kps, fun _ => rfl⟩
end
end TH
set_option maxRecDepth 100000
set_option maxHeartbeats 4000000
namespace TH
open PySem L2 Evl
section
variable {P : Program} {w : World} {K : PySem.W.Frag} {mg : Str → Option Value} {base : Heap}
theorem scLike : FnScope ["self", "book"] ["self", "book"] (defScope sLike) := ⟨rfl, rfl, rfl, by decide +kernel, rfl, by decide +kernel, by decide +kernel⟩
theorem ok_like {f C : Addr} {fd : FuncData} (F : Fun K "is_like" "Book.is_like" sLike f fd) (T : BookT K mg C) : FnOk P w K mg base CX0 1 f fd ["self", "book"] (spLike C) := by
  refine F.ok scLike (fun vs H Q E h => ?_) (fun cdv A outer s H vs Q E hr h => ?_)
  · obtain ⟨M, M', p, p', S, S', rfl, _⟩ := h
    rfl
  · obtain ⟨M, M', p, p', S, S', rfl, ⟨dx, l1, l2, h1, h2, h3, h4, h5⟩, ⟨dy, m1, m2, g1, g2, g3, g4, g5⟩, n1, n2, q⟩ := h
    refine ⟨_, pss_one (ps_ret (pe_and (pe_cmpR (op_eqD (hu64 hr)) (pe_fld (pv 0) rfl) (pe_fld (pv 1) rfl) (nomark _)) (pe_one (pe_cmpR (op_eqD (hu64 hr)) (pe_fld (pv 0) rfl) (pe_fld (pv 1) rfl) (nomark _))))), ?_⟩
    have e1 : (S.map fun q => V.str q.1) = (S.map (·.1)).map V.str := by rw [List.map_map]; rfl
    have e2 : (S'.map fun q => V.str q.1) = (S'.map (·.1)).map V.str := by rw [List.map_map]; rfl
    have e3 : (S.map fun q => V.int q.2) = (S.map (·.2)).map V.int := by rw [List.map_map]; rfl
    have e4 : (S'.map fun q => V.int q.2) = (S'.map (·.2)).map V.int := by rw [List.map_map]; rfl
    have o1 : ∀ z ∈ S.map (·.1), PyData.strOk z = true := fun z hz => by
      obtain ⟨q, hq, rfl⟩ := List.mem_map.mp hz
      exact n1 q hq
    have o2 : ∀ z ∈ S'.map (·.1), PyData.strOk z = true := fun z hz => by
      obtain ⟨q, hq, rfl⟩ := List.mem_map.mp hz
      exact n2 q hq
    rw [e1] at h2
    rw [e2] at g2
    rw [e3] at h4
    rw [e4] at g4
    refine ⟨_, rfl, p, C, dx, _, _, rfl, h1, T.cl, T.n1, flds_names _ _, _, rfl, p', C, dy, _, _, rfl, g1, T.cl, T.n1, flds_names _ _, _, _, .lst (SqL.of h2) (dpAll_strs _), .lst (SqL.of g2) (dpAll_strs _), shaped_strs _ o1, shaped_strs _ o2, _, rfl, ?_⟩
    rw [PyData.eqv, eqv_strs]
    by_cases c : S.map (·.1) = S'.map (·.1)
    · rw [decide_eq_true c] at q ⊢
      refine iteT ?_
      refine ⟨_, rfl, p, C, dx, _, _, rfl, h1, T.cl, T.n2, flds_kids _ _, _, rfl, p', C, dy, _, _, rfl, g1, T.cl, T.n2, flds_kids _ _, _, _, .lst (SqL.of h4) (dpAll_ints _), .lst (SqL.of g4) (dpAll_ints _), shaped_ints _, shaped_ints _, ?_⟩
      rw [PyData.eqv, eqv_ints]
      exact q
    · rw [decide_eq_false c] at q ⊢
      exact iteF q
end
end TH
set_option maxRecDepth 100000
set_option maxHeartbeats 4000000
namespace TH
open PySem L2 Evl
abbrev sIsRow : Stmt := top 8
abbrev sIsTree : Stmt := top 9
abbrev sCheck : Stmt := top 10
abbrev sSizes : Stmt := top 999999
def spIsRow (K : PySem.W.Frag) (C : Addr) : Sp := fun vs H Q _ => ∃ (p : Addr) (v : V) (S : List Sg) (ns : List Int), vs = [.ref p, v] ∧ BookAt C MF H p S ∧ KidsOk S ∧ Dt K MF H v (tupI ns) ∧ ∀ H', Ex H H' → Q (.bl (runB S 1 ns)) H'
section
variable {P : Program} {w : World} {K : PySem.W.Frag} {mg : Str → Option Value} {base : Heap} {C : Addr}
abbrev nIsRow : List Str := ["book", "row", "due", "sign"]
theorem scIsRow : FnScope nIsRow ["book", "row"] (defScope sIsRow) := ⟨rfl, rfl, rfl, by decide +kernel, rfl, by decide +kernel, by decide +kernel⟩
theorem ok_isrow {f : Addr} {fd : FuncData} (F : Fun K "is_row" "is_row" sIsRow f fd) (B : BookK P w K mg base C) (BH : OneM P w K mg base C "has" 1 ["self", "sign"] (spHas C)) : FnOk P w K mg base CX0 2 f fd ["book", "row"] (spIsRow K C) := by
  obtain ⟨T, _, ⟨f2, d2, m2, g2, b2⟩⟩ := B
  obtain ⟨f1, d1, m1, g1, b1⟩ := BH
  refine F.ok scIsRow (fun vs H Q E h => ?_) (fun cdv A outer s H vs Q E hr h => ?_)
  · obtain ⟨p, v, S, ns, rfl, _⟩ := h
    rfl
  · obtain ⟨p, v, S, ns, rfl, hB, hK, hv, q⟩ := h
    refine ⟨_, pss_cons (ps_set (i := 2) scIsRow.nd rfl (.inl rfl) pe_int)
      (pss_cons (ps_for PassesOwn.never rfl (pi_tup (pv 1)) (pg_name (i := 3) scIsRow.nd rfl (.inl rfl))
        (pss_cons (ps_if (PW.pt (pw_or (pt_cmpR op_eq (pv 2) pe_int (nomark _)) (pw_or1 (pt_not (pt_val (pe_meth (pv 0) T.cl m1 g1 hr b1 .nil pass0 (pa_cons (pv 3) pa_nil))))))) (pss_one (ps_ret pe_bl)) pss_nil)
        (pss_one (ps_set (i := 2) scIsRow.nd rfl (.inl rfl) (pe_op op_sub (pe_op op_add (pv 2) (pe_meth (pv 0) T.cl m2 g2 hr b2 .nil pass0 (pa_cons (pv 3) pa_nil))) pe_int)))))
      (pss_one (ps_ret (pe_cmpR op_eq (pv 2) pe_int (nomark _))))), ?_⟩
    obtain ⟨a, rfl, hS⟩ := dt_tup hv
    refine ⟨_, rfl, a, rfl, ⟨_, hS⟩, for_tup (K := K) (a := a) (xs := ns.map V.int) (fun i σ' H' => Ex H H' ∧ ∃ (d : Nat) (u : Option V), σ' = [some (.ref p), some (.ref a), some (.int (d : Int)), u] ∧ runB S 1 ns = runB S d (ns.drop i))
      ⟨Ex.refl H, 1, none, rfl, rfl⟩ (fun i σ' H' _ z => ex_t z.1 hS) ?_ ?_⟩
    · rintro i x σ' H1 hx ⟨e, d, u, rfl, hd⟩
      rw [List.getElem?_map] at hx
      cases hz : ns[i]? with
      | none =>
        rw [hz] at hx
        cases hx
      | some z =>
      rw [hz] at hx
      cases hx
      obtain ⟨hlt, ez⟩ := List.getElem?_eq_some_iff.mp hz
      have ed : ns.drop i = z :: ns.drop (i + 1) := by rw [List.drop_eq_getElem_cons hlt, ez]
      rw [ed, runB] at hd
      have hB1 := hB.ex e
      refine q_when (et_or (evt_test (K := K) (M := MF) (evd_eqI (evd_var rfl (.int (d : Int))) evd_int)) fun _ => evt_not (evt_B (K := K) (M := MF) (evd_has rfl hB1 (evd_var rfl (.int z))))) (fun hb H2 e2 => ?_) (fun hb H2 e2 => ?_)
      · rw [Bool.or_eq_true, Bool.not_eq_true', Bool.and_eq_false_iff, decide_eq_true_eq, decide_eq_false_iff_not, decide_eq_false_iff_not] at hb
        have hf : runB S 1 ns = false := by
          rw [hd]
          by_cases h0 : d = 0
          · rw [if_pos h0]
          · rw [if_neg h0, if_neg]
            omega
        have := q H2 (e.trans e2)
        rw [hf] at this
        exact this
      · rw [Bool.or_eq_false_iff, Bool.not_eq_false', Bool.and_eq_true, decide_eq_false_iff_not, decide_eq_true_eq, decide_eq_true_eq] at hb
        obtain ⟨h0, h1, h2⟩ := hb
        rw [if_neg (by omega), if_pos ⟨h1, h2⟩] at hd
        obtain ⟨j, rfl⟩ := Int.eq_ofNat_of_zero_le h1
        have hj : S[j]? = some (S[j]'(by omega)) := List.getElem?_eq_getElem _
        have hk := hK _ (List.mem_of_getElem? hj)
        refine s_asgP (K := K) (M := MF) (evd_sub (evd_add (evd_var rfl (.int (d : Int))) (evd_kids rfl (hB1.ex e2) (evd_var rfl (.int (j : Int))) rfl hj)) evd_int) fun v d' H3 e3 dv pd => ?_
        subst pd
        cases dv
        refine ⟨(e.trans e2).trans e3, d - 1 + ks S j, some (.int (j : Int)), ?_, hd⟩
        rw [ks_of hj]
        have hc : (d : Int) + (S[j]'(by omega)).2 - 1 = ((d - 1 + (S[j]'(by omega)).2.toNat : Nat) : Int) := by omega
        exact congrArg (fun z => [some (V.ref p), some (V.ref a), some (V.int z), some (V.int (j : Int))]) hc
    · rintro σ' H1 ⟨e, d, u, rfl, hd⟩
      rw [List.length_map, List.drop_length, runB] at hd
      refine s_retP (K := K) (M := MF) (evd_eqI (evd_var rfl (.int (d : Int))) evd_int) fun v d' H3 e3 dv pd => ?_
      subst pd
      cases dv
      have := q H3 (e.trans e3)
      rw [hd] at this
      have e0 : decide (d = 0) = decide ((d : Int) = 0) := by
        by_cases h : d = 0
        · rw [decide_eq_true h, decide_eq_true (by omega)]
        · rw [decide_eq_false h, decide_eq_false (by omega)]
      rw [e0] at this
      exact this
end
end TH
set_option maxRecDepth 100000
set_option maxHeartbeats 4000000
namespace TH
open PySem L2 Evl
def spIsTree (K : PySem.W.Frag) (C : Addr) : Sp := fun vs H Q _ => ∃ (p : Addr) (v : V) (S : List Sg) (ns : List Int), vs = [.ref p, v] ∧ BookAt C MF H p S ∧ KidsOk S ∧ Dt K MF H v (tupI ns) ∧ ∀ H', Ex H H' → Q (.bl (treeB S ns)) H'
def spCheck (K : PySem.W.Frag) (C CT : Addr) : Sp := fun vs H Q E => ∃ (p : Addr) (v : V) (S : List Sg) (ns : List Int), vs = [.ref p, v] ∧ BookAt C MF H p S ∧ KidsOk S ∧ Dt K MF H v (tupI ns) ∧
  (treeB S ns = true → ∀ H', Ex H H' → Q .non H') ∧ (treeB S ns = false → ∀ H', Ex H H' → E (.ref CT) none H')
section
variable {P : Program} {w : World} {K : PySem.W.Frag} {mg : Str → Option Value} {base : Heap} {C : Addr}
theorem scIsTree : FnScope ["book", "tree"] ["book", "tree"] (defScope sIsTree) := ⟨rfl, rfl, rfl, by decide +kernel, rfl, by decide +kernel, by decide +kernel⟩
theorem ok_istree {f : Addr} {fd : FuncData} (F : Fun K "is_tree" "is_tree" sIsTree f fd) (G : Glob mg) (GR : GlobR mg) (B : OneF P w K mg base "is_row" 2 ["book", "row"] (spIsRow K C)) : FnOk P w K mg base CX0 3 f fd ["book", "tree"] (spIsTree K C) := by
  obtain ⟨f1, d1, m1, k1, g1, b1⟩ := B
  obtain ⟨t, hL⟩ := GR.mostT
  refine F.ok scIsTree (fun vs H Q E h => ?_) (fun cdv A outer s H vs Q E hr h => ?_)
  · obtain ⟨p, v, S, ns, rfl, _⟩ := h
    rfl
  · obtain ⟨p, v, S, ns, rfl, hB, hK, hv, q⟩ := h
    refine ⟨_, pss_one (ps_ret (pe_and (pe_cmpR op_le (pe_callB call_len_seq (by rfl) G.len PySem.boot_len (pa_cons (pv 1) pa_nil)) (pe_glob rfl hL (show RelV (.int 40) _ from ⟨_, rfl⟩)) (nomark _)) (pe_one (pe_call g1 hr rfl m1 k1 b1 .nil pass0 (pa_cons (pv 0) (pa_cons (pv 1) pa_nil)))))), ?_⟩
    obtain ⟨a, rfl, hS⟩ := dt_tup hv
    refine ⟨_, rfl, a, _, rfl, .inr hS, _, _, rfl, rfl, _, rfl, ?_⟩
    rw [List.length_map]
    by_cases h : (ns.length : Int) ≤ 40
    · rw [decide_eq_true h]
      refine iteT ⟨_, rfl, _, rfl, p, .ref a, S, ns, rfl, hB, hK, hv, fun H' e => ?_⟩
      have := q H' e
      unfold treeB at this
      rw [decide_eq_true h] at this
      exact this
    · rw [decide_eq_false h]
      refine iteF ?_
      have := q H (Ex.refl _)
      unfold treeB at this
      rw [decide_eq_false h] at this
      exact this
theorem scCheck : FnScope ["book", "tree"] ["book", "tree"] (defScope sCheck) := ⟨rfl, rfl, rfl, by decide +kernel, rfl, by decide +kernel, by decide +kernel⟩
theorem ok_check {f CT : Addr} {fd : FuncData} (F : Fun K "check_tree" "check_tree" sCheck f fd) (TN : ExcT K mg "NoTree" CT) (B : OneF P w K mg base "is_tree" 3 ["book", "tree"] (spIsTree K C)) : FnOk P w K mg base (L2.CX P w) 4 f fd ["book", "tree"] (spCheck K C CT) := by
  obtain ⟨f1, d1, m1, k1, g1, b1⟩ := B
  refine F.okX scCheck (fun vs H Q E h => ?_) (fun cdv A outer s H vs Q E hr h => ?_)
  · obtain ⟨p, v, S, ns, rfl, _⟩ := h
    rfl
  · obtain ⟨p, v, S, ns, rfl, hB, hK, hv, qy, qn⟩ := h
    refine ⟨_, pss_one (ps_if (pt_not (pt_val (pe_call g1 hr rfl m1 k1 b1 .nil pass0 (pa_cons (pv 0) (pa_cons (pv 1) pa_nil))))) (pss_one (ps_raise rfl (takes_of rfl rfl rfl rfl) (pmk_own PySem.F.excBase_ValueError TN.x TN.g TN.k (raises_own TN.b TN.t) rfl))) pss_nil), ?_⟩
    refine ⟨_, rfl, _, rfl, p, v, S, ns, rfl, hB, hK, hv, fun H' e => ⟨_, rfl, ?_⟩⟩
    cases h : treeB S ns with
    | true => exact iteF (qy h H' e)
    | false => exact iteT (qn h H' e)
end
/-- a def that may raise -/
def OneX (P : Program) (w : World) (K : PySem.W.Frag) (mg : Str → Option Value) (base : Heap) (x : Str) (k : Nat) (ps : List Str) (sp : Sp) : Prop :=
  ∃ (f : Addr) (fd : FuncData), mg x = some (.ref f) ∧ PySem.W.keepIn K (.ref f) = true ∧ FnOk P w K mg base (L2.CX P w) k f fd ps sp ∧ Binds K fd ps []
def OneMX (P : Program) (w : World) (K : PySem.W.Frag) (mg : Str → Option Value) (base : Heap) (C : Addr) (m : Str) (k : Nat) (ps : List Str) (sp : Sp) : Prop :=
  ∃ (f : Addr) (fd : FuncData), Meth K C m f ∧ FnOk P w K mg base (L2.CX P w) k f fd ps sp ∧ Binds K fd ps []
end TH
set_option maxRecDepth 100000
set_option maxHeartbeats 4000000
namespace TH
open PySem L2 Evl
/-! ### Reader.mood, Reader.likes -/
def unN : PyData → Nat
  | .int i => i.toNat
  | _ => 0
def FR (R : Pl) (s : Nat) (ds : List PyData) : PyData := .int (ledN R s (ds.map unN) : Int)
theorem foldR (R : Pl) : ∀ t : Tr, foldT (FR R) t = .int (moodT R t : Int)
  | .n0 s => rfl
  | .n1 s t => by
    rw [foldT, foldR R t, moodT]
    rfl
  | .n2 s t u => by
    rw [foldT, foldR R t, foldR R u, moodT]
    rfl
theorem foldR_map (R : Pl) (ts : List Tr) : ts.map (foldT (FR R)) = (ofN (ts.map (moodT R))).map PyData.int := by
  unfold ofN
  rw [List.map_map, List.map_map]
  exact List.map_congr_left fun t _ => foldR R t
def spRMood (K : PySem.W.Frag) (CB CR CT : Addr) : Sp := fun vs H Q E => ∃ (p : Addr) (v : V) (S : List Sg) (R : Pl) (ns : List Int), vs = [.ref p, v] ∧ ReadAt K CB CR MF H p S R ∧ GoodR S R ∧ KidsOk S ∧ Dt K MF H v (tupI ns) ∧
  (treeB S ns = false → ∀ H', Ex H H' → E (.ref CT) none H') ∧ (∀ t, OkT S t → ns = ofN t.row → t.size ≤ 40 → ∀ H', Ex H H' → Q (.int (moodT R t : Int)) H')
def spRLikes (K : PySem.W.Frag) (CB CR CT : Addr) : Sp := fun vs H Q E => ∃ (p : Addr) (v : V) (S : List Sg) (R : Pl) (ns : List Int), vs = [.ref p, v] ∧ ReadAt K CB CR MF H p S R ∧ GoodR S R ∧ KidsOk S ∧ Dt K MF H v (tupI ns) ∧
  (treeB S ns = false → ∀ H', Ex H H' → E (.ref CT) none H') ∧ (∀ t, OkT S t → ns = ofN t.row → t.size ≤ 40 → ∀ H', Ex H H' → Q (.bl (decide (moodT R t ∈ R.liked))) H')
section
variable {P : Program} {w : World} {K : PySem.W.Frag} {mg : Str → Option Value} {base : Heap} {CB CR CT : Addr}
theorem scRMood : FnScope ["self", "tree"] ["self", "tree"] (defScope sRMood) := ⟨rfl, rfl, rfl, by decide +kernel, rfl, by decide +kernel, by decide +kernel⟩
theorem ok_rmood {f g : Addr} {fd : FuncData} (F : Fun K "mood" "Reader.mood" sRMood f fd) (T : ReadT K mg CR) (bm : BMeth K CR "lead" g) (B1 : OneX P w K mg base "check_tree" 4 ["book", "tree"] (spCheck K CB CT)) (B2 : OneF P w K mg base "led" 3 ["book", "row", "lead"] (spLed K CB g (spRLead K CB CR))) :
    FnOk P w K mg base (L2.CX P w) 5 f fd ["self", "tree"] (spRMood K CB CR CT) := by
  obtain ⟨f1, d1, m1, k1, g1, b1⟩ := B1
  obtain ⟨f2, d2, m2, k2, g2, b2⟩ := B2
  refine F.okX scRMood (fun vs H Q E h => ?_) (fun cdv A outer s0 H vs Q E hr h => ?_)
  · obtain ⟨p, v, S, R, ns, rfl, _⟩ := h
    rfl
  · obtain ⟨p, v, S, R, ns, rfl, hR, gR, hK, hv, qn, qy⟩ := h
    have hr3 : Room 3 _ := hr.mono (show 3 ≤ 4 by decide)
    refine ⟨_, pss_cons (ps_expr (pe_call (E := E) g1 hr rfl m1 k1 b1 .nil (passes_call (takes_of rfl rfl rfl rfl) fun _ _ _ _ h => h) (pa_cons (pe_fld (pv 0) rfl) (pa_cons (pv 1) pa_nil))))
      (pss_one (ps_ret (pe_call g2 hr3 rfl m2 k2 b2 .nil pass0 (pa_cons (pe_fld (pv 0) rfl) (pa_cons (pv 1) (pa_cons (pe_bnM (pv 0) T.cl bm) pa_nil)))))), ?_⟩
    have hR0 := hR
    obtain ⟨dx, pb, lt, ll, h1, h2, h3, h4⟩ := hR
    refine ⟨_, rfl, p, CR, dx, _, _, rfl, h1, T.cl, T.n1, rflds_book _ _ _ _, _, rfl, pb, v, S, ns, rfl, h2, hK, hv, fun ht H1 e1 => ?_, qn⟩
    obtain ⟨t, hO, rfl, h40⟩ := treeB_tree hK ht
    refine ⟨_, rfl, p, CR, dx, _, _, rfl, e1 _ _ h1, T.cl, T.n1, rflds_book _ _ _ _, _, rfl, _, rfl, p, dx, _, rfl, e1 _ _ h1, rflds_no _ _ _ _ (by decide +kernel) (by decide +kernel) (by decide +kernel) (by decide +kernel), fun q hq => ?_⟩
    have e2 : Ex H (upd H1 q (.met g p)) := e1.trans (Ex.new hq)
    refine ⟨pb, q, p, v, S, t, FR R, rfl, h2.ex e2, hK, hv.ex e2, hO, by omega, upd_same, fun u z H3 Q1 E1 e3 hu hz k => ?_, fun x H3 e3 dx3 => ?_⟩
    · rw [foldR_map] at hz
      refine ⟨MF, p, S, R, u.root, z, u.kids.map (moodT R), rfl, hR0.ex (e2.trans e3), dt_any hz, gR, hK, hu.root, by rw [List.length_map]; exact hu.ark.symm, fun x hx => ?_, fun H4 e4 => ?_⟩
      · obtain ⟨kd, hk, rfl⟩ := List.mem_map.mp hx
        exact gR.mood kd (hu.kids kd hk)
      · refine k _ H4 e4 ?_
        rw [foldR, moodT_eq]
        exact .int _
    · rw [foldR] at dx3
      cases dx3
      exact qy t hO rfl h40 H3 (e2.trans e3)
theorem scRLikes : FnScope ["self", "tree"] ["self", "tree"] (defScope sRLikes) := ⟨rfl, rfl, rfl, by decide +kernel, rfl, by decide +kernel, by decide +kernel⟩
theorem ok_rlikes {f : Addr} {fd : FuncData} (F : Fun K "likes" "Reader.likes" sRLikes f fd) (T : ReadT K mg CR) (B1 : OneMX P w K mg base CR "mood" 5 ["self", "tree"] (spRMood K CB CR CT)) :
    FnOk P w K mg base (L2.CX P w) 6 f fd ["self", "tree"] (spRLikes K CB CR CT) := by
  obtain ⟨f1, d1, m1, g1, b1⟩ := B1
  refine F.okX scRLikes (fun vs H Q E h => ?_) (fun cdv A outer s0 H vs Q E hr h => ?_)
  · obtain ⟨p, v, S, R, ns, rfl, _⟩ := h
    rfl
  · obtain ⟨p, v, S, R, ns, rfl, hR, gR, hK, hv, qn, qy⟩ := h
    refine ⟨_, pss_one (ps_ret (pe_cmpR op_in_seq (pe_meth (E := E) (pv 0) T.cl m1 g1 hr b1 .nil (passes_call (takes_of rfl rfl rfl rfl) fun _ _ _ _ h => h) (pa_cons (pv 1) pa_nil)) (pe_fld (pv 0) rfl) (by rfl))), ?_⟩
    have hR0 := hR
    obtain ⟨dx, pb, lt, ll, h1, h2, h3, h4⟩ := hR
    refine ⟨_, rfl, p, dx, _, rfl, h1, rflds_no _ _ _ _ (by decide +kernel) (by decide +kernel) (by decide +kernel) (by decide +kernel), _, rfl, p, v, S, R, ns, rfl, hR0, gR, hK, hv, qn, fun t hO ht h40 H1 e1 => ?_⟩
    obtain ⟨a, ea, ha, _⟩ := dt_listN (h4.ex e1)
    cases ea
    refine ⟨_, rfl, p, CR, dx, _, _, rfl, e1 _ _ h1, T.cl, T.n4, rflds_liked _ _ _ _, ll, nums R.liked, rfl, .inl (sq_of ha), rfl, ?_, ?_⟩
    · rw [← nums_of]
      exact flat_ints _
    · have e : inV (.int (moodT R t : Int)) (nums R.liked) = decide (moodT R t ∈ R.liked) := by
        rw [← nums_of, inV_int]
        have : ((moodT R t : Int) ∈ ofN R.liked) ↔ moodT R t ∈ R.liked := by
          unfold ofN
          rw [List.mem_map]
          constructor
          · rintro ⟨x, hx, e⟩
            have : x = moodT R t := by omega
            rw [← this]
            exact hx
          · intro h
            exact ⟨_, h, rfl⟩
        by_cases h : moodT R t ∈ R.liked
        · rw [decide_eq_true h, decide_eq_true (this.mpr h)]
        · rw [decide_eq_false h, decide_eq_false (fun z => h (this.mp z))]
      show Q (.bl (inV (.int (moodT R t : Int)) (nums R.liked))) H1
      rw [e]
      exact qy t hO ht h40 H1 e1
end
end TH
set_option maxRecDepth 100000
set_option maxHeartbeats 4000000
namespace TH
open PySem L2 Evl
abbrev sTabSize : Stmt := top 15
abbrev sIsTable : Stmt := top 16
abbrev sAreTabs : Stmt := top 17
/-! ### which tables, which liked moods -/
def tabB (m k : Nat) (tb : List Int) : Bool := decide ((tb.length : Int) = ((m ^ k : Nat) : Int)) && tb.all fun x => decide (0 ≤ x) && decide (x < (m : Int))
def tabsB (S : List Sg) (m : Nat) (tabs : List (List Int)) : Bool := decide ((tabs.length : Int) = (S.length : Int)) && tabs.zipIdx.all fun p => tabB m (ks S p.2) p.1
section
variable {K : PySem.W.Frag} {M M' : Addr → Prop} {H H1 H' : Hp} {σ : L2.St} {te : TE} {tt : TT} {g : TG} {vs : List Nat}
end
def spTabSize : Sp := fun vs H Q _ => ∃ m k : Nat, vs = [.int (m : Int), .int (k : Int)] ∧ m ≤ 6 ∧ k ≤ 2 ∧ ∀ H', Ex H H' → Q (.int ((m ^ k : Nat) : Int)) H'
def spIsTable (K : PySem.W.Frag) : Sp := fun vs H Q _ => ∃ (M : Addr → Prop) (v : V) (tb : List Int) (m k : Nat), vs = [v, .int (m : Int), .int (k : Int)] ∧ Ok M H ∧ Dt K M H v (listI tb) ∧ tb.length ≤ 100000 ∧ m ≤ 6 ∧ k ≤ 2 ∧ ∀ H', Ex H H' → Q (.bl (tabB m k tb)) H'
def spAreTabs (K : PySem.W.Frag) (CB : Addr) : Sp := fun vs H Q _ => ∃ (M Mb : Addr → Prop) (pb : Addr) (v : V) (S : List Sg) (tabs : List (List Int)) (m : Nat), vs = [.ref pb, .int (m : Int), v] ∧ BookAt CB Mb H pb S ∧ KidsOk S ∧ Ok M H ∧ Dt K M H v (.list (tabs.map listI)) ∧ tabs.length ≤ 100000 ∧ (∀ tb ∈ tabs, tb.length ≤ 100000) ∧ m ≤ 6 ∧
  ∀ H', Ex H H' → Q (.bl (tabsB S m tabs)) H'
theorem mpow {m k : Nat} (hm : m ≤ 6) (hk : k ≤ 2) : m ^ k ≤ 36 := by
  have h1 : m ^ k ≤ 6 ^ k := Nat.pow_le_pow_left hm k
  have h2 : (6 : Nat) ^ k ≤ 6 ^ 2 := Nat.pow_le_pow_right (by decide) hk
  omega
section
variable {P : Program} {w : World} {K : PySem.W.Frag} {mg : Str → Option Value} {base : Heap} {CB CR : Addr}
abbrev nTabSize : List Str := ["moods", "kids", "size", "_"]
theorem scTabSize : FnScope nTabSize ["moods", "kids"] (defScope sTabSize) := ⟨rfl, rfl, rfl, by decide +kernel, rfl, by decide +kernel, by decide +kernel⟩
theorem ok_tabsize {f : Addr} {fd : FuncData} (F : Fun K "table_size" "table_size" sTabSize f fd) (G : Glob mg) : FnOk P w K mg base CX0 1 f fd ["moods", "kids"] spTabSize := by
  refine F.ok scTabSize (fun vs H Q E h => ?_) (fun cdv A outer s0 H vs Q E hr h => ?_)
  · obtain ⟨m, k, rfl, _⟩ := h
    rfl
  · obtain ⟨m, k, rfl, hm, hk, q⟩ := h
    refine ⟨_, pss_cons (ps_set (i := 2) scTabSize.nd rfl (.inl rfl) pe_int)
      (pss_cons (ps_for PassesOwn.never rfl (pi_range1 rfl G.range (pa_cons (pv 1) pa_nil)) (pg_name (i := 3) scTabSize.nd rfl (.inl rfl)) (pss_one (ps_set (i := 2) scTabSize.nd rfl (.inl rfl) (pe_op op_mul (pv 2) (pv 0)))))
      (pss_one (ps_ret (pv 2)))), ?_⟩
    refine q_forR1 (n := (k : Int)) (ea_cons (ev_var rfl) ea_nil) (by omega) (fun i σ' H' => Ex H H' ∧ ∃ u, σ' = [some (.int (m : Int)), some (.int (k : Int)), some (.int ((m ^ i : Nat) : Int)), u])
      (fun H1 e1 => ⟨e1, none, rfl⟩) ?_ ?_
    · rintro i σ' H1 hi ⟨e, u, rfl⟩
      have hp := mpow hm (show i ≤ 2 by omega)
      refine s_asgP (K := K) (M := MF) (evd_mulM (evd_var (i := 2) rfl (.int _)) (evd_var (i := 0) rfl (.int _)) (by omega)) fun y d H2 e2 dy pd => ?_
      subst pd
      cases dy
      refine ⟨e.trans e2, some (.int (i : Int)), ?_⟩
      rw [Nat.pow_succ, Int.natCast_mul]
      rfl
    · rintro σ' H1 ⟨e, u, rfl⟩
      rw [Int.toNat_natCast]
      exact ⟨_, rfl, q H1 e⟩
abbrev nIsTable : List Str := ["table", "moods", "kids", "mood"]
theorem scIsTable : FnScope nIsTable ["table", "moods", "kids"] (defScope sIsTable) := ⟨rfl, rfl, rfl, by decide +kernel, rfl, by decide +kernel, by decide +kernel⟩
theorem ok_istable {f : Addr} {fd : FuncData} (F : Fun K "is_table" "is_table" sIsTable f fd) (G : GlobS mg) (B : OneF P w K mg base "table_size" 1 ["moods", "kids"] spTabSize) : FnOk P w K mg base CX0 2 f fd ["table", "moods", "kids"] (spIsTable K) := by
  obtain ⟨f1, d1, m1, k1, g1, b1⟩ := B
  refine F.ok scIsTable (fun vs H Q E h => ?_) (fun cdv A outer s0 H vs Q E hr h => ?_)
  · obtain ⟨M, v, tb, m, k, rfl, _⟩ := h
    rfl
  · obtain ⟨M, v, tb, m, k, rfl, ok, hv, hl, hm, hk, q⟩ := h
    refine ⟨_, pss_one (ps_ret (pe_and (pe_cmpR op_eq (pe_callB call_len_seq (by rfl) G.len PySem.boot_len (pa_cons (pv 0) pa_nil)) (pe_call g1 hr rfl m1 k1 b1 .nil pass0 (pa_cons (pv 1) (pa_cons (pv 2) pa_nil))) (nomark _))
      (pe_one (pe_callB (cr_all rfl) (by rfl) G.all (by decide +kernel) (pa_cons (pe_lc (own := [("mood", 3)]) (g := gName 3) (tt := tYes) rfl scIsTable.nd (pi_list (pv 0))
          (blkOk_by (N := nIsTable) (sc := defScope sIsTable) (by decide +kernel)) (fun _ _ _ _ _ => pg_name (i := 3) scIsTable.nd rfl (.inl rfl)) (fun _ _ _ _ _ => pts_nil)
          (fun _ _ _ _ _ => pe_chain op_le op_lt pe_int (pv 3) (pv 1))) pa_nil))))), ?_⟩
    refine s_retP (K := K) (M := M) (evd_andV (a := decide ((tb.length : Int) = ((m ^ k : Nat) : Int))) (evd_eqI ?_ ?_) fun _ => evd_all (bs := tb.map fun x => decide (0 ≤ x) && decide (x < (m : Int))) (eva_cons ?_ eva_nil)) fun x d H1 e1 dx pd => ?_
    · have h := evd_lenL (K := K) (M := M) (σ := start nIsTable [v, .int (m : Int), .int (k : Int)]) (ta := tCons (tVar 0) tNil) (H := H) (eva_cons (evd_var (i := 0) rfl hv) eva_nil)
      rw [List.length_map] at h
      exact h
    · exact fun H1 e Q q => ⟨_, rfl, _, rfl, m, k, rfl, hm, hk, fun H2 e2 => q _ _ H2 e2 (.int _) rfl⟩
    · refine ((evn_lcM (bs := tb) PyData.int (fun x => .bool (decide (0 ≤ x) && decide (x < (m : Int)))) ok (evd_var (i := 0) rfl hv) (Nat.lt_of_le_of_lt hl (by decide)) fun M' b x H' hM ok' hb e dx Qg qg => ?_).data ok).mono fun d hd => ?_
      · refine qg _ H' (Ex.refl _) ⟨rfl, evt_yes, fun _ => evd_chainI (g := fun i j => decide (i ≤ j)) (g' := fun i j => decide (i < j)) evd_int (evd_var (i := 3) rfl dx) (evd_var (i := 1) rfl (.int (m : Int)))⟩
      · obtain ⟨ds, rfl, rfl⟩ := hd
        rw [List.map_map]
        rfl
    · subst pd
      cases dx
      have := q H1 e1
      unfold tabB at this
      rw [List.all_map]
      exact this
abbrev nAreTabs : List Str := ["book", "moods", "tables", "sign", "table"]
theorem scAreTabs : FnScope nAreTabs ["book", "moods", "tables"] (defScope sAreTabs) := ⟨rfl, rfl, rfl, by decide +kernel, rfl, by decide +kernel, by decide +kernel⟩
theorem ok_aretabs {f : Addr} {fd : FuncData} (F : Fun K "are_tables" "are_tables" sAreTabs f fd) (G : GlobS mg) (BK : BookK P w K mg base CB) (B : OneF P w K mg base "is_table" 2 ["table", "moods", "kids"] (spIsTable K)) : FnOk P w K mg base CX0 3 f fd ["book", "moods", "tables"] (spAreTabs K CB) := by
  obtain ⟨f1, d1, m1, k1, g1, b1⟩ := B
  obtain ⟨T, ⟨f2, d2, m2, g2, b2⟩, ⟨f3, d3, m3, g3, b3⟩⟩ := BK
  refine F.ok scAreTabs (fun vs H Q E h => ?_) (fun cdv A outer s0 H vs Q E hr h => ?_)
  · obtain ⟨M, Mb, pb, v, S, tabs, m, rfl, _⟩ := h
    rfl
  · obtain ⟨M, Mb, pb, v, S, tabs, m, rfl, hB, hK, ok, hv, hl, hls, hm, q⟩ := h
    have hr1 : Room 1 _ := hr.mono (show 1 ≤ 2 by decide)
    refine ⟨_, pss_cons (ps_if (pt_cmpR op_ne (pe_callB call_len_seq (by rfl) G.len PySem.boot_len (pa_cons (pv 2) pa_nil)) (pe_meth0 (pv 0) T.cl m2 g2 hr1 b2 .nil pass0) (nomark _)) (pss_one (ps_ret pe_bl)) pss_nil)
      (pss_one (ps_ret (pe_callB (cr_all rfl) (by rfl) G.all (by decide +kernel) (pa_cons (pe_lc (own := [("sign", 3), ("table", 4)]) (tt := tYes) rfl scAreTabs.nd (pi_enum (by rfl) G.enumerate (pa_cons (pv 2) pa_nil))
          (blkOk_by (N := nAreTabs) (sc := defScope sAreTabs) (by decide +kernel)) (fun _ _ _ _ _ => pg_tupK (K := K) (n := 2) rfl rfl (pgs_cons (pg_name (i := 3) scAreTabs.nd rfl (.inl rfl)) (pgs_cons (pg_name (i := 4) scAreTabs.nd rfl (.inl rfl)) pgs_nil))) (fun _ _ _ _ _ => pts_nil)
          (fun _ _ _ _ _ => pe_call g1 hr rfl m1 k1 b1 .nil pass0 (pa_cons (pv 4) (pa_cons (pv 1) (pa_cons (pe_meth (pv 0) T.cl m3 g3 hr1 b3 .nil pass0 (pa_cons (pv 3) pa_nil)) pa_nil))))) pa_nil)))), ?_⟩
    have elen : EvD K M (tCB (fun xs H Q => ∃ p ys, xs = [.ref p] ∧ (SqL K H p ys ∨ SqT K H p ys) ∧ Q (.int ys.length) H) (tCons (tVar 2) tNil)) (start nAreTabs [.ref pb, .int (m : Int), v]) H (.int (tabs.length : Int)) := by
      have h := evd_lenL (K := K) (M := M) (σ := start nAreTabs [.ref pb, .int (m : Int), v]) (ta := tCons (tVar 2) tNil) (H := H) (eva_cons (evd_var (i := 2) rfl hv) eva_nil)
      rw [List.length_map] at h
      exact h
    refine q_when (evt_test (K := K) (M := M) (evd_neI elen (evd_many (i := 0) rfl hB))) (fun hb H1 e1 => ?_) (fun hb H1 e1 => ?_)
    · have := q H1 e1
      unfold tabsB at this
      rw [Bool.not_eq_true'] at hb
      rw [hb] at this
      exact this
    rw [Bool.not_eq_false'] at hb
    have hlS : tabs.length = S.length := by have := of_decide_eq_true hb; omega
    have ok1 := ok.ex e1
    have hB1 := hB.ex e1
    refine s_retP (K := K) (M := M) (evd_all (bs := tabs.zipIdx.map fun p => tabB m (ks S p.2) p.1) (eva_cons ?_ eva_nil)) fun x d H2 e2 dx pd => ?_
    · refine ((evn_lcE (bs := tabs) listI (fun i tb => .bool (tabB m (ks S i) tb)) ok1 (eva_cons (evd_var (i := 2) rfl (hv.ex e1)) eva_nil) (Nat.lt_of_le_of_lt hl (by decide)) fun M' i tb x T H' hM ok' hb e dx hT Qg qg => ?_).data ok1).mono fun d hd => ?_
      · have hi : i < S.length := by rw [← hlS]; exact (List.getElem?_eq_some_iff.mp hb).1
        have hSi : S[i]? = some (S[i]'hi) := List.getElem?_eq_getElem _
        refine ⟨_, _, rfl, SqT.of hT, rfl, _, _, rfl, _, _, rfl, rfl, qg _ H' (Ex.refl _) ⟨rfl, evt_yes, fun _ => ?_⟩⟩
        intro H2 e2 Q q2
        refine ⟨_, rfl, _, rfl, evd_kids (K := K) (M' := MF) (S := S) (j := i) (i := 0) rfl (hB1.ex e) (evd_var (i := 3) rfl (.int (i : Int))) rfl hSi H2 e2 _ fun z dz H3 e3 dvz pz => ?_⟩
        subst pz
        cases dvz
        have hk := hK _ (List.mem_of_getElem? hSi)
        have ekn : ((S[i]'hi).2 : Int) = ((ks S i : Nat) : Int) := by rw [ks_of hSi, Int.toNat_of_nonneg hk.1]
        rw [ekn]
        exact ⟨M', x, tb, m, ks S i, rfl, ok'.ex (e2.trans e3), dx.ex (e2.trans e3), hls tb (List.mem_of_getElem? hb), hm, ks_le hK i, fun H4 e4 => q2 _ _ H4 (e3.trans e4) (.bl _) rfl⟩
      · obtain ⟨ds, rfl, rfl⟩ := hd
        rw [List.map_map]
        rfl
    · subst pd
      cases dx
      have := q H2 (e1.trans e2)
      unfold tabsB at this
      rw [hb] at this
      rw [List.all_map]
      exact this
end
end TH
set_option maxRecDepth 100000
set_option maxHeartbeats 4000000
namespace TH
open PySem L2 Evl
/-! ### a Reader is made -/
section
variable {K : PySem.W.Frag} {M N : Addr → Prop} {H : Hp} {σ : L2.St} {tl te : TE} {tt : TT} {g : TG} {vs : List Nat}
end
/-- what stands when the fields are kept -/
def Kept (K : PySem.W.Frag) (CR : Addr) (H H' : Hp) (p pb : Addr) (m : Int) (tabs : List (List Int)) (ls : List Int) : Prop :=
  ∃ dx lt ll, H' p = some (.ins CR dx (rflds pb m lt ll)) ∧ NewD K H H' (.ref lt) (.list (tabs.map listI)) ∧ NewD K H H' (.ref ll) (listI ls) ∧ ∀ b o, H b = some o → b ≠ p → H' b = some o
structure Args (K : PySem.W.Frag) (M : Addr → Prop) (H : Hp) (vt vl : V) (tabs : List (List Int)) (ls : List Int) : Prop where
  tab : Dt K M H vt (.list (tabs.map listI))
  lik : Dt K M H vl (listI ls)
  l1 : tabs.length ≤ 100000
  l2 : ∀ tb ∈ tabs, tb.length ≤ 100000
theorem Args.ex {K : PySem.W.Frag} {M : Addr → Prop} {H H' : Hp} {vt vl : V} {tabs : List (List Int)} {ls : List Int} (h : Args K M H vt vl tabs ls) (e : Ex H H') : Args K M H' vt vl tabs ls := ⟨h.tab.ex e, h.lik.ex e, h.l1, h.l2⟩
def spRKeep (K : PySem.W.Frag) (CR : Addr) : Sp := fun vs H Q _ => ∃ (M : Addr → Prop) (p pb dx : Addr) (vt vl : V) (m : Int) (tabs : List (List Int)) (ls : List Int) (fs : List (Str × V)), vs = [.ref p, .ref pb, .int m, vt, vl] ∧ H p = some (.ins CR dx fs) ∧ fs.length ≤ 900 ∧
  (∀ pb m lt ll, putF "_liked" (.ref ll) (putF "_tables" (.ref lt) (putF "_moods" (.int m) (putF "_book" (.ref pb) fs))) = rflds pb m lt ll) ∧ Args K M H vt vl tabs ls ∧
  ∀ H', Kept K CR H H' p pb m tabs ls → Q .non H'
def rokB (S : List Sg) (m : Int) (tabs : List (List Int)) (ls : List Int) : Bool := (decide (1 ≤ m) && decide (m ≤ 6)) && (tabsB S m.toNat tabs && likB m (-1) ls)
def spRInit (K : PySem.W.Frag) (CB CR CN : Addr) : Sp := fun vs H Q E => ∃ (M Mb : Addr → Prop) (p pb dx : Addr) (vt vl : V) (S : List Sg) (m : Int) (tabs : List (List Int)) (ls : List Int), vs = [.ref p, .ref pb, .int m, vt, vl] ∧ H p = some (.ins CR dx []) ∧ KidsOk S ∧ Ok M H ∧ BookAt CB Mb H pb S ∧ Args K M H vt vl tabs ls ∧
  (rokB S m tabs ls = true → ∀ H', Kept K CR H H' p pb m tabs ls → Q .non H') ∧ (rokB S m tabs ls = false → ∀ H', Ex H H' → E (.ref CN) none H')
theorem Kept.from {K : PySem.W.Frag} {CR : Addr} {H0 H H' : Hp} {p pb : Addr} {m : Int} {tabs : List (List Int)} {ls : List Int} (h : Kept K CR H H' p pb m tabs ls) (e : Ex H0 H) : Kept K CR H0 H' p pb m tabs ls := by
  obtain ⟨dx, lt, ll, h1, h3, h4, h5⟩ := h
  exact ⟨dx, lt, ll, h1, h3.from fun b o h => ⟨o, e b o h⟩, h4.from fun b o h => ⟨o, e b o h⟩, fun b o hb hne => h5 b o (e b o hb) hne⟩
section
variable {P : Program} {w : World} {K : PySem.W.Frag} {mg : Str → Option Value} {base : Heap} {CB CR CN : Addr}
abbrev nRKeep : List Str := ["self", "book", "moods", "tables", "liked", "table"]
theorem scRKeep : FnScope nRKeep ["self", "book", "moods", "tables", "liked"] (defScope sRKeep) := ⟨rfl, rfl, rfl, by decide +kernel, rfl, by decide +kernel, by decide +kernel⟩
theorem ok_rkeep {f : Addr} {fd : FuncData} (F : Fun K "_keep" "Reader._keep" sRKeep f fd) (GY : GlobY mg) (T : ReadT K mg CR) : FnOk P w K mg base CX0 1 f fd ["self", "book", "moods", "tables", "liked"] (spRKeep K CR) := by
  refine F.ok scRKeep (fun vs H Q E h => ?_) (fun cdv A outer s0 H vs Q E hr h => ?_)
  · obtain ⟨M, p, pb, dx, vt, vl, m, tabs, ls, fs, rfl, _⟩ := h
    rfl
  · obtain ⟨M, p, pb, dx, vt, vl, m, tabs, ls, fs, rfl, hp, hfl, hfs, hA, q⟩ := h
    refine ⟨_, pss_cons (ps_fld (pv 0) (pv 1) rfl)
      (pss_cons (ps_fld (pv 0) (pv 2) rfl)
      (pss_cons (ps_fld (pv 0) (pe_lc (own := [("table", 5)]) (g := gName 5) (tt := tYes) rfl scRKeep.nd (pi_list (pv 3)) (blkOk_by (N := nRKeep) (sc := defScope sRKeep) (by decide +kernel)) (fun _ _ _ _ _ => pg_name (i := 5) scRKeep.nd rfl (.inl rfl)) (fun _ _ _ _ _ => pts_nil)
          (fun _ _ _ _ _ => pe_callTy (call_list_ofK (K := K) rfl) (by rfl) GY.list (by decide +kernel) (pa_cons (pv 5) pa_nil))) rfl)
      (pss_one (ps_fld (pv 0) (pe_callTy call_list_of (by rfl) GY.list (by decide +kernel) (pa_cons (pv 4) pa_nil)) rfl)))), ?_⟩
    have fl1 : ∀ (x : Str) (v : V) (gs : List (Str × V)) (n : Nat), gs.length ≤ n → (putF x v gs).length ≤ n + 1 := fun x v gs n h => Nat.le_trans (length_putF x v gs) (Nat.succ_le_succ h)
    have g1 := fl1 "_book" (.ref pb) fs 900 hfl
    have g2 := fl1 "_moods" (.int m) _ 901 g1
    refine q_fldR rfl rfl hp T.cl T.n1 (by omega) ?_
    have hp1 : (upd H p (.ins CR dx (putF "_book" (.ref pb) fs))) p = some (.ins CR dx (putF "_book" (.ref pb) fs)) := upd_same
    refine q_fldR rfl rfl hp1 T.cl T.n2 (by omega) ?_
    rw [upd_upd]
    have hp2 : (upd H p (.ins CR dx (putF "_moods" (.int m) (putF "_book" (.ref pb) fs)))) p = some (.ins CR dx (putF "_moods" (.int m) (putF "_book" (.ref pb) fs))) := upd_same
    have hT2 : Dt K M (upd H p (.ins CR dx (putF "_moods" (.int m) (putF "_book" (.ref pb) fs)))) vt (.list (tabs.map listI)) := hA.tab.updI hp
    have hL2 : Dt K M (upd H p (.ins CR dx (putF "_moods" (.int m) (putF "_book" (.ref pb) fs)))) vl (listI ls) := hA.lik.updI hp
    have ok2 : Ok (MO H) (upd H p (.ins CR dx (putF "_moods" (.int m) (putF "_book" (.ref pb) fs)))) := okUpd okO
    have k2 : ∀ b o, H b = some o → b ≠ p → (upd H p (.ins CR dx (putF "_moods" (.int m) (putF "_book" (.ref pb) fs)))) b = some o := fun b o hb hne => by rw [upd_ne hne]; exact hb
    generalize upd H p (.ins CR dx (putF "_moods" (.int m) (putF "_book" (.ref pb) fs))) = H2 at hp2 hT2 hL2 ok2 k2
    refine q_fldP (K := K) (M := MO H) (i := 0) (P := (· = .list (tabs.map listI))) ?_ fun v1 d1 H3 e3 dv1 pd1 => ⟨p, CR, dx, _, rfl, e3 _ _ hp2, T.cl, T.n3, by omega, ?_⟩
    · refine ((evn_lcMN (M := M) (N := MO H) (bs := tabs) listI listI ok2 (evd_var (i := 3) rfl hT2) (Nat.lt_of_le_of_lt hA.l1 (by decide)) fun M' tb x H' hM ok' hb e dx Qg qg => ?_).data ok2).mono fun d hd => ?_
      · exact qg _ H' (Ex.refl _) ⟨rfl, evt_yes, fun _ => evd_listNew (M := M) ok' (eva_cons (evd_var (i := 5) rfl dx) eva_nil)⟩
      · obtain ⟨ds, rfl, rfl⟩ := hd
        rfl
    subst pd1
    obtain ⟨lt, rfl⟩ : ∃ lt, v1 = .ref lt := by
      cases dv1 with
      | lst h1 h2 h3 => exact ⟨_, rfl⟩
    have hp3 := e3 _ _ hp2
    have hT4 : Dt K (MO H) (upd H3 p (.ins CR dx (putF "_tables" (.ref lt) (putF "_moods" (.int m) (putF "_book" (.ref pb) fs))))) (.ref lt) (.list (tabs.map listI)) := dv1.updI hp3
    have hL4 : Dt K M (upd H3 p (.ins CR dx (putF "_tables" (.ref lt) (putF "_moods" (.int m) (putF "_book" (.ref pb) fs))))) vl (listI ls) := (hL2.ex e3).updI hp3
    have ok4 : Ok (MO H) (upd H3 p (.ins CR dx (putF "_tables" (.ref lt) (putF "_moods" (.int m) (putF "_book" (.ref pb) fs))))) := okUpd (ok2.ex e3)
    have hp4 : (upd H3 p (.ins CR dx (putF "_tables" (.ref lt) (putF "_moods" (.int m) (putF "_book" (.ref pb) fs))))) p = some (.ins CR dx (putF "_tables" (.ref lt) (putF "_moods" (.int m) (putF "_book" (.ref pb) fs)))) := upd_same
    have k4 : ∀ b o, H b = some o → b ≠ p → (upd H3 p (.ins CR dx (putF "_tables" (.ref lt) (putF "_moods" (.int m) (putF "_book" (.ref pb) fs))))) b = some o := fun b o hb hne => by rw [upd_ne hne]; exact e3 _ _ (k2 b o hb hne)
    have g3 := fl1 "_tables" (.ref lt) _ 902 g2
    generalize upd H3 p (.ins CR dx (putF "_tables" (.ref lt) (putF "_moods" (.int m) (putF "_book" (.ref pb) fs)))) = H4 at hp4 hT4 hL4 ok4 k4
    refine s_fldP (K := K) (M := MO H) (i := 0) (P := (· = listI ls)) (evd_listNew (M := M) ok4 (eva_cons (evd_var (i := 4) rfl hL4) eva_nil)) fun v2 d2 H5 e5 dv2 pd2 => ⟨p, CR, dx, _, rfl, e5 _ _ hp4, T.cl, T.n4, by omega, ?_⟩
    subst pd2
    obtain ⟨ll, rfl⟩ : ∃ ll, v2 = .ref ll := by
      cases dv2 with
      | lst h1 h2 h3 => exact ⟨_, rfl⟩
    rw [hfs]
    have hp5 := e5 _ _ hp4
    exact q _ ⟨dx, lt, ll, upd_same, newD_of ((hT4.ex e5).updI hp5), newD_of (dv2.updI hp5), fun b o hb hne => by rw [upd_ne hne]; exact e5 _ _ (k4 b o hb hne)⟩
abbrev nRInit : List Str := ["self", "book", "moods", "tables", "liked"]
theorem scRInit : FnScope nRInit ["self", "book", "moods", "tables", "liked"] (defScope sRInit) := ⟨rfl, rfl, rfl, by decide +kernel, rfl, by decide +kernel, by decide +kernel⟩
structure GlobM (mg : Str → Option Value) : Prop where
  most : ∃ t, mg "MOST_MOODS" = some (.int 6 t)
theorem ok_rinit {f : Addr} {fd : FuncData} (F : Fun K "__init__" "Reader.__init__" sRInit f fd) (GM : GlobM mg) (T : ReadT K mg CR) (TN : ExcT K mg "NoReader" CN) (B1 : OneF P w K mg base "are_tables" 3 ["book", "moods", "tables"] (spAreTabs K CB)) (B2 : OneF P w K mg base "are_liked" 1 ["liked", "moods"] (spAreLiked K))
    (B3 : OneM P w K mg base CR "_keep" 1 ["self", "book", "moods", "tables", "liked"] (spRKeep K CR)) : FnOk P w K mg base (L2.CX P w) 4 f fd ["self", "book", "moods", "tables", "liked"] (spRInit K CB CR CN) := by
  obtain ⟨f1, d1, m1, k1, g1, b1⟩ := B1
  obtain ⟨f2, d2, m2, k2, g2, b2⟩ := B2
  obtain ⟨f3, d3, m3, g3, b3⟩ := B3
  obtain ⟨t, hL⟩ := GM.most
  refine F.okX scRInit (fun vs H Q E h => ?_) (fun cdv A outer s0 H vs Q E hr h => ?_)
  · obtain ⟨M, Mb, p, pb, dx, vt, vl, S, m, tabs, ls, rfl, _⟩ := h
    rfl
  · obtain ⟨M, Mb, p, pb, dx, vt, vl, S, m, tabs, ls, rfl, hp, hK, ok, hB, hA, qy, qn⟩ := h
    have hr1 : Room 1 _ := hr.mono (show 1 ≤ 3 by decide)
    refine ⟨_, pss_cons (ps_if (pt_not (pt_chain op_le op_le pe_int (pv 2) (pe_glob rfl hL (show RelV (.int 6) _ from ⟨_, rfl⟩)))) (pss_one (ps_raise rfl (takes_of rfl rfl rfl rfl) (pmk_own PySem.F.excBase_ValueError TN.x TN.g TN.k (raises_own TN.b TN.t) rfl))) pss_nil)
      (pss_cons (ps_if (pt_not (pt_val (pe_call g1 hr rfl m1 k1 b1 .nil pass0 (pa_cons (pv 1) (pa_cons (pv 2) (pa_cons (pv 3) pa_nil)))))) (pss_one (ps_raise rfl (takes_of rfl rfl rfl rfl) (pmk_own PySem.F.excBase_ValueError TN.x TN.g TN.k (raises_own TN.b TN.t) rfl))) pss_nil)
      (pss_cons (ps_if (pt_not (pt_val (pe_call g2 hr1 rfl m2 k2 b2 .nil pass0 (pa_cons (pv 4) (pa_cons (pv 2) pa_nil))))) (pss_one (ps_raise rfl (takes_of rfl rfl rfl rfl) (pmk_own PySem.F.excBase_ValueError TN.x TN.g TN.k (raises_own TN.b TN.t) rfl))) pss_nil)
      (pss_one (ps_expr (pe_meth (pv 0) T.cl m3 g3 hr1 b3 .nil pass0 (pa_cons (pv 1) (pa_cons (pv 2) (pa_cons (pv 3) (pa_cons (pv 4) pa_nil))))))))), ?_⟩
    refine q_when (evt_not (evt_test (K := K) (M := M) (evd_chainI (g := fun i j => decide (i ≤ j)) (g' := fun i j => decide (i ≤ j)) evd_int (evd_var (i := 2) rfl (.int m)) evd_int))) (fun hb H1 e1 => ?_) (fun hb H1 e1 => ?_)
    · rw [Bool.not_eq_true'] at hb
      exact qn (by unfold rokB; rw [hb]; rfl) H1 e1
    rw [Bool.not_eq_false'] at hb
    obtain ⟨m1', m6⟩ : 1 ≤ m ∧ m ≤ 6 := by
      rw [Bool.and_eq_true, decide_eq_true_eq, decide_eq_true_eq] at hb
      exact hb
    have em : m = ((m.toNat : Nat) : Int) := by omega
    refine ⟨_, rfl, _, rfl, _, rfl, M, Mb, pb, vt, S, tabs, m.toNat, by rw [← em]; rfl, hB.ex e1, hK, ok.ex e1, hA.tab.ex e1, hA.l1, hA.l2, by omega, fun H2 e2 => ⟨_, rfl, ?_⟩⟩
    have e12 := e1.trans e2
    cases hT : tabsB S m.toNat tabs with
    | false => exact iteT (qn (by unfold rokB; rw [hb, hT]; rfl) H2 e12)
    | true =>
    refine iteF ⟨_, rfl, _, rfl, M, vl, ls, m, rfl, hA.lik.ex e12, fun H3 e3 => ⟨_, rfl, ?_⟩⟩
    have e13 := e12.trans e3
    cases hL' : likB m (-1) ls with
    | false => exact iteT (qn (by unfold rokB; rw [hb, hT, hL']; rfl) H3 e13)
    | true =>
    refine iteF ⟨_, rfl, p, dx, [], rfl, e13 _ _ hp, rfl, _, rfl, _, rfl, _, rfl, _, rfl, M, p, pb, dx, vt, vl, m, tabs, ls, [], rfl, e13 _ _ hp, by decide, fun _ _ _ _ => rfl,
      hA.ex e13, fun H4 hk => qy (by unfold rokB; rw [hb, hT, hL']; rfl) H4 (hk.from e13)⟩
end
end TH
set_option maxRecDepth 100000
set_option maxHeartbeats 4000000
namespace TH
open PySem L2 Evl
abbrev sAlike : Stmt := top 25
abbrev sFair : Stmt := top 27
abbrev sIsPair : Stmt := top 28
/-! ### two readers of alike books, a pair of moods -/
def likeB (S S' : List Sg) : Bool := decide (S.map (·.1) = S'.map (·.1)) && decide (S.map (·.2) = S'.map (·.2))
def spAlike (K : PySem.W.Frag) (CB CR CU : Addr) : Sp := fun vs H Q E => ∃ (p p' : Addr) (S S' : List Sg) (R R' : Pl), vs = [.ref p, .ref p'] ∧ ReadAt K CB CR MF H p S R ∧ ReadAt K CB CR MF H p' S' R' ∧ namesOk S ∧ namesOk S' ∧
  (likeB S S' = true → Q .non H) ∧ (likeB S S' = false → E (.ref CU) none H)
def fairB (R R' : Pl) (p : Int × Int) : Bool := decide (decide (p.1 ∈ ofN R.liked) = decide (p.2 ∈ ofN R'.liked))
def pairB (R R' : Pl) (p : Int × Int) : Bool := (decide (0 ≤ p.1) && decide (p.1 < (R.moods : Int))) && (decide (0 ≤ p.2) && decide (p.2 < (R'.moods : Int)))
def qD (p : Int × Int) : PyData := tupI [p.1, p.2]
def spPairs (K : PySem.W.Frag) (CB CR : Addr) (f : Pl → Pl → Int × Int → Bool) : Sp := fun vs H Q _ => ∃ (M : Addr → Prop) (p p' : Addr) (v : V) (S S' : List Sg) (R R' : Pl) (x : Int × Int), vs = [.ref p, .ref p', v] ∧ ReadAt K CB CR MF H p S R ∧ ReadAt K CB CR MF H p' S' R' ∧ Dt K M H v (qD x) ∧
  ∀ H', Ex H H' → Q (.bl (f R R' x)) H'
section
variable {K : PySem.W.Frag} {M M' : Addr → Prop} {H H1 H' : Hp} {σ : L2.St} {ta tb te : TE} {E : XK} {CB CR p : Addr} {S : List Sg} {R : Pl} {i : Nat}
theorem evd_moodsR (hs : σ[i]? = some (some (.ref p))) (hR : ReadAt K CB CR M' H p S R) : EvD K M (tMeth CR "moods" (spRMoods K CB CR) [] E (tVar i) tNil) σ H (.int (R.moods : Int)) := fun H1 e Q q => by
  have h := hR.ex e
  have h0 := h
  obtain ⟨dx, pb, lt, ll, h1, _⟩ := h0
  exact ⟨_, hs, p, dx, _, rfl, h1, rflds_no _ _ _ _ (by decide +kernel) (by decide +kernel) (by decide +kernel) (by decide +kernel), M', p, S, R, rfl, h, q _ _ H1 (Ex.refl _) (.int _) rfl⟩
theorem evd_likedR (hs : σ[i]? = some (some (.ref p))) (hR : ReadAt K CB CR M' H p S R) : EvD K MF (tMeth CR "liked" (spRLiked K CB CR) [] E (tVar i) tNil) σ H (.list ((ofN R.liked).map PyData.int)) := fun H1 e Q q => by
  have h := hR.ex e
  have h0 := h
  obtain ⟨dx, pb, lt, ll, h1, _⟩ := h0
  exact ⟨_, hs, p, dx, _, rfl, h1, rflds_no _ _ _ _ (by decide +kernel) (by decide +kernel) (by decide +kernel) (by decide +kernel), M', p, S, R, rfl, h, fun l H2 hl e2 h2 => q _ _ H2 e2 (.lst h2 (fun z => z) (nums_dts _)) rfl⟩
theorem evd_eqB {a b : Bool} (ha : EvD K M ta σ H (.bool a)) (hb : EvD K M tb σ H (.bool b)) : EvD K M (tOp rEq ta tb) σ H (.bool (decide (a = b))) :=
  evp_op ha hb fun x y d d' H1 e dx dy px py Q q => by
    subst px py
    cases dx
    cases dy
    exact ⟨rfl, q _ _ H1 (Ex.refl _) (.bl _) (congrArg PyData.bool (by simp))⟩
end
section
variable {P : Program} {w : World} {K : PySem.W.Frag} {mg : Str → Option Value} {base : Heap} {CB CR CU : Addr}
theorem scAlike : FnScope ["one", "other"] ["one", "other"] (defScope sAlike) := ⟨rfl, rfl, rfl, by decide +kernel, rfl, by decide +kernel, by decide +kernel⟩
theorem ok_alike {f : Addr} {fd : FuncData} (F : Fun K "check_alike" "check_alike" sAlike f fd) (TN : ExcT K mg "Unlike" CU) (T : BookT K mg CB) (TR : ReadT K mg CR) (B1 : OneM P w K mg base CR "book" 1 ["self"] (spRBook K CB CR)) (B2 : OneM P w K mg base CB "is_like" 1 ["self", "book"] (spLike CB)) :
    FnOk P w K mg base (L2.CX P w) 2 f fd ["one", "other"] (spAlike K CB CR CU) := by
  obtain ⟨f1, d1, m1, g1, b1⟩ := B1
  obtain ⟨f2, d2, m2, g2, b2⟩ := B2
  refine F.okX scAlike (fun vs H Q E h => ?_) (fun cdv A outer s H vs Q E hr h => ?_)
  · obtain ⟨p, p', S, S', R, R', rfl, _⟩ := h
    rfl
  · obtain ⟨p, p', S, S', R, R', rfl, h1, h2, n1, n2, qy, qn⟩ := h
    refine ⟨_, (pss_one (ps_if (pt_not (pt_val (pe_meth (pe_meth0 (pv 0) TR.cl m1 g1 hr b1 .nil pass0) T.cl m2 g2 hr b2 .nil pass0 (pa_cons (pe_meth0 (pv 1) TR.cl m1 g1 hr b1 .nil pass0) pa_nil)))) (pss_one (ps_raise rfl (takes_of rfl rfl rfl rfl) (pmk_own PySem.F.excBase_ValueError TN.x TN.g TN.k (raises_own TN.b TN.t) rfl))) pss_nil)), ?_⟩
    have h10 := h1
    have h20 := h2
    obtain ⟨dx, pb, lt, ll, k1, _⟩ := h10
    obtain ⟨dy, pb', lt', ll', k2, _⟩ := h20
    refine ⟨_, rfl, p, dx, _, rfl, k1, rflds_no _ _ _ _ (by decide +kernel) (by decide +kernel) (by decide +kernel) (by decide +kernel), MF, p, S, R, rfl, h1, fun b hb => ?_⟩
    have hb0 := hb
    obtain ⟨db, l1, l2, kb, _⟩ := hb0
    refine ⟨b, db, _, rfl, kb, flds_no _ _ (by decide +kernel) (by decide +kernel), _, rfl, p', dy, _, rfl, k2, rflds_no _ _ _ _ (by decide +kernel) (by decide +kernel) (by decide +kernel) (by decide +kernel), MF, p', S', R', rfl, h2, fun b' hb' => ?_⟩
    refine ⟨MF, MF, b, b', S, S', rfl, hb, hb', n1, n2, _, rfl, ?_⟩
    cases h : likeB S S' with
    | true =>
      have h : (decide (S.map (·.1) = S'.map (·.1)) && decide (S.map (·.2) = S'.map (·.2))) = true := h
      rw [h]
      exact iteF (qy h)
    | false =>
      have h : (decide (S.map (·.1) = S'.map (·.1)) && decide (S.map (·.2) = S'.map (·.2))) = false := h
      rw [h]
      exact iteT (qn h)
theorem scIsPair : FnScope ["one", "other", "pair"] ["one", "other", "pair"] (defScope sIsPair) := ⟨rfl, rfl, rfl, by decide +kernel, rfl, by decide +kernel, by decide +kernel⟩
theorem ok_ispair {f : Addr} {fd : FuncData} (F : Fun K "is_pair" "is_pair" sIsPair f fd) (TR : ReadT K mg CR) (B1 : OneM P w K mg base CR "moods" 1 ["self"] (spRMoods K CB CR)) : FnOk P w K mg base CX0 2 f fd ["one", "other", "pair"] (spPairs K CB CR pairB) := by
  obtain ⟨f1, d1, m1, g1, b1⟩ := B1
  refine F.ok scIsPair (fun vs H Q E h => ?_) (fun cdv A outer s H vs Q E hr h => ?_)
  · obtain ⟨M, p, p', v, S, S', R, R', x, rfl, _⟩ := h
    rfl
  · obtain ⟨M, p, p', v, S, S', R, R', x, rfl, h1, h2, hv, q⟩ := h
    refine ⟨_, (pss_one (ps_ret (pe_and (pe_chain op_le op_lt pe_int (pe_ix ix_tup (pv 2) pe_int (fun _ _ => rfl)) (pe_meth0 (pv 0) TR.cl m1 g1 hr b1 .nil pass0)) (pe_one (pe_chain op_le op_lt pe_int (pe_ix ix_tup (pv 2) pe_int (fun _ _ => rfl)) (pe_meth0 (pv 1) TR.cl m1 g1 hr b1 .nil pass0)))))), ?_⟩
    have hx : ∀ {H'}, Ex H H' → EvD K M (tVar 2) (start ["one", "other", "pair"] [.ref p, .ref p', v]) H' (.tuple [.int x.1, .int x.2]) := fun e => evd_var (i := 2) rfl (hv.ex e)
    refine s_retP (K := K) (M := M) (evd_andV (evd_chainI (g := fun i j => decide (i ≤ j)) (g' := fun i j => decide (i < j)) evd_int (evd_ixT (j := 0) (hx (Ex.refl _)) evd_int rfl rfl) (evd_moodsR (i := 0) rfl h1)) fun _ => evd_chainI (g := fun i j => decide (i ≤ j)) (g' := fun i j => decide (i < j)) evd_int (evd_ixT (j := 1) (hx (Ex.refl _)) evd_int rfl rfl) (evd_moodsR (i := 1) rfl h2)) fun y d H1 e1 dy pd => ?_
    subst pd
    cases dy
    exact q H1 e1
theorem scFair : FnScope ["one", "other", "pair"] ["one", "other", "pair"] (defScope sFair) := ⟨rfl, rfl, rfl, by decide +kernel, rfl, by decide +kernel, by decide +kernel⟩
theorem ok_fair {f : Addr} {fd : FuncData} (F : Fun K "is_fair" "is_fair" sFair f fd) (TR : ReadT K mg CR) (B1 : OneM P w K mg base CR "liked" 1 ["self"] (spRLiked K CB CR)) : FnOk P w K mg base CX0 2 f fd ["one", "other", "pair"] (spPairs K CB CR fairB) := by
  obtain ⟨f1, d1, m1, g1, b1⟩ := B1
  refine F.ok scFair (fun vs H Q E h => ?_) (fun cdv A outer s H vs Q E hr h => ?_)
  · obtain ⟨M, p, p', v, S, S', R, R', x, rfl, _⟩ := h
    rfl
  · obtain ⟨M, p, p', v, S, S', R, R', x, rfl, h1, h2, hv, q⟩ := h
    refine ⟨_, (pss_one (ps_ret (pe_cmpR op_eq (pe_cmpR op_in_seq (pe_ix ix_tup (pv 2) pe_int (fun _ _ => rfl)) (pe_meth0 (pv 0) TR.cl m1 g1 hr b1 .nil pass0) (by rfl)) (pe_cmpR op_in_seq (pe_ix ix_tup (pv 2) pe_int (fun _ _ => rfl)) (pe_meth0 (pv 1) TR.cl m1 g1 hr b1 .nil pass0) (by rfl)) (nomark _)))), ?_⟩
    have hx : ∀ {H'}, Ex H H' → EvD K MF (tVar 2) (start ["one", "other", "pair"] [.ref p, .ref p', v]) H' (.tuple [.int x.1, .int x.2]) := fun e => evd_var (i := 2) rfl (dt_any (ns := [x.1, x.2]) (hv.ex e))
    refine s_retP (K := K) (M := MF) (evd_eqB (evd_inI (z := x.1) (ys := ofN R.liked) (evd_ixT (j := 0) (hx (Ex.refl _)) evd_int rfl rfl) (evd_likedR (i := 0) rfl h1)) (evd_inI (z := x.2) (ys := ofN R'.liked) (evd_ixT (j := 1) (hx (Ex.refl _)) evd_int rfl rfl) (evd_likedR (i := 1) rfl h2))) fun y d H1 e1 dy pd => ?_
    subst pd
    cases dy
    exact q H1 e1
end
end TH
set_option maxRecDepth 100000
set_option maxHeartbeats 4000000
namespace TH
open PySem PySem.Spec PyProof.Rows L2 Evl NdefX LamX
abbrev sShows : Stmt := top 29
/-! ### heaps in which all but the tables stays; heaps with things hidden -/
section
variable {K : PySem.W.Frag} {M M' : Addr → Prop} {H H1 H' : Hp} {σ : L2.St} {ta tb te tx : TE} {E : XK} {CB CR p p' : Addr} {S S' : List Sg} {R R' : Pl} {v : V} {d : PyData} {C : Addr → Prop}
theorem extN_lst (e : ExtN H H') {a : Addr} {xs : List V} (h : H a = some (.lst xs)) : H' a = some (.lst xs) := e _ _ h fun ps z => by cases z
theorem extN_tup (e : ExtN H H') {a : Addr} {xs : List V} (h : H a = some (.tup xs)) : H' a = some (.tup xs) := e _ _ h fun ps z => by cases z
theorem extN_ins (e : ExtN H H') {a C dx : Addr} {fs : List (Str × V)} (h : H a = some (.ins C dx fs)) : H' a = some (.ins C dx fs) := e _ _ h fun ps z => by cases z
theorem Dt.exN (h : Dt K M H v d) (e : ExtN H H') : Dt K M H' v d := Dt.move (fun a xs h n => ⟨extN_lst e h, n⟩) (fun a xs h => extN_tup e h) d v h
theorem BookAt.exN {C p : Addr} (h : BookAt C M H p S) (e : ExtN H H') : BookAt C M H' p S := by
  obtain ⟨dx, l1, l2, h1, h2, h3, h4, h5⟩ := h
  exact ⟨dx, l1, l2, extN_ins e h1, extN_lst e h2, h3, extN_lst e h4, h5⟩
theorem ReadAt.exN (h : ReadAt K CB CR M H p S R) (e : ExtN H H') : ReadAt K CB CR M H' p S R := by
  obtain ⟨dx, pb, lt, ll, h1, h2, h3, h4⟩ := h
  exact ⟨dx, pb, lt, ll, extN_ins e h1, h2.exN e, h3.exN e, h4.exN e⟩
theorem hid_lst (hC : ∀ b, C b → ∃ o, H b = some (CellX b o)) {a : Addr} {xs : List V} (h : H a = some (.lst xs)) : hidP C H a = some (.lst xs) := hid_some hC h fun x z => by unfold CellX at z; cases z
theorem hid_tup (hC : ∀ b, C b → ∃ o, H b = some (CellX b o)) {a : Addr} {xs : List V} (h : H a = some (.tup xs)) : hidP C H a = some (.tup xs) := hid_some hC h fun x z => by unfold CellX at z; cases z
theorem hid_ins (hC : ∀ b, C b → ∃ o, H b = some (CellX b o)) {a D dx : Addr} {fs : List (Str × V)} (h : H a = some (.ins D dx fs)) : hidP C H a = some (.ins D dx fs) := hid_some hC h fun x z => by unfold CellX at z; cases z
theorem Dt.hid (hC : ∀ b, C b → ∃ o, H b = some (CellX b o)) (h : Dt K M H v d) : Dt K M (hidP C H) v d := Dt.move (fun a xs h n => ⟨hid_lst hC h, n⟩) (fun a xs h => hid_tup hC h) d v h
theorem BookAt.hid {D p : Addr} (hC : ∀ b, C b → ∃ o, H b = some (CellX b o)) (h : BookAt D M H p S) : BookAt D M (hidP C H) p S := by
  obtain ⟨dx, l1, l2, h1, h2, h3, h4, h5⟩ := h
  exact ⟨dx, l1, l2, hid_ins hC h1, hid_lst hC h2, h3, hid_lst hC h4, h5⟩
theorem ReadAt.hid (hC : ∀ b, C b → ∃ o, H b = some (CellX b o)) (h : ReadAt K CB CR M H p S R) : ReadAt K CB CR M (hidP C H) p S R := by
  obtain ⟨dx, pb, lt, ll, h1, h2, h3, h4⟩ := h
  exact ⟨dx, pb, lt, ll, hid_ins hC h1, h2.hid hC, h3.hid hC, h4.hid hC⟩
theorem ex_reh (hC : ∀ b, C b → ∃ o, H b = some (CellX b o)) (e : Ex (hidP C H) H') : Ex H (rehP C H H') := fun b o h => by
  by_cases c : C b
  · rw [reh_of c, h]
  · rw [reh_ne c]
    exact e b o (by rw [hid_ne c, h])
theorem Dt.reh (n : ∀ b, C b → H' b = none) (h : Dt K M H' v d) : Dt K M (rehP C H H') v d :=
  Dt.move (fun a xs h k => ⟨by rw [reh_ne fun c => by rw [n a c] at h; cases h]; exact h, k⟩) (fun a xs h => by rw [reh_ne fun c => by rw [n a c] at h; cases h]; exact h) d v h
theorem likeB_eq (h : likeB S S' = true) : S = S' := by
  unfold likeB at h
  rw [Bool.and_eq_true, decide_eq_true_eq, decide_eq_true_eq] at h
  obtain ⟨h1, h2⟩ := h
  induction S generalizing S' with
  | nil =>
    cases S' with
    | nil => rfl
    | cons q S' => cases h1
  | cons q S ih =>
    cases S' with
    | nil => cases h1
    | cons q' S' =>
      rw [List.map_cons, List.map_cons, List.cons.injEq] at h1 h2
      rw [ih h1.2 h2.2, Prod.ext h1.1 h2.1]
theorem evd_pairsC {f : Pl → Pl → Int × Int → Bool} {i j : Nat} {x : Int × Int} (hi : σ[i]? = some (some (.ref p))) (hj : σ[j]? = some (some (.ref p'))) (hR : ReadAt K CB CR MF H p S R) (hR' : ReadAt K CB CR MF H p' S' R') (hx : EvD K M tx σ H (qD x)) :
    EvD K M (tCall (spPairs K CB CR f) [] E (tCons (tVar i) (tCons (tVar j) (tCons tx tNil)))) σ H (.bool (f R R' x)) := fun H1 e Q q =>
  ⟨_, hi, _, hj, hx H1 e _ fun v d H2 e2 dv pd => by
    subst pd
    exact ⟨M, p, p', v, S, S', R, R', x, rfl, (hR.ex e).ex e2, (hR'.ex e).ex e2, dv, fun H3 e3 => q _ _ H3 (e2.trans e3) (.bl _) rfl⟩⟩
end
/-- both ways at once -/
def ledP (R R' : Pl) (s : Nat) (k : List (Nat × Nat)) : Nat × Nat := (ledN R s (k.map (·.1)), ledN R' s (k.map (·.2)))
def natP (x : Int × Int) : Nat × Nat := (x.1.toNat, x.2.toNat)
def ShowsP (S : List Sg) (R R' : Pl) (ps : List (Int × Int)) : Prop := (∀ x ∈ ps, pairB R R' x = true ∧ fairB R R' x = true) ∧ ClosedP S (ledP R R') (ps.map natP)
def spShows (K : PySem.W.Frag) (CB CR CU : Addr) (T : List NTab) : Sp := fun vs H Q E => ∃ (p p' : Addr) (v : V) (S S' : List Sg) (R R' : Pl) (ps : List (Int × Int)), vs = [.ref p, .ref p', v] ∧ ReadAt K CB CR MF H p S R ∧ ReadAt K CB CR MF H p' S' R' ∧ GoodR S R ∧ GoodR S' R' ∧ KidsOk S ∧ namesOk S ∧ namesOk S' ∧ S.length ≤ 100 ∧
  Dt K MF H v (.list (ps.map qD)) ∧ ps.length ≤ 250 ∧ TabsN T H ∧ (likeB S S' = true → ∀ (b : Bool) (H' : Hp), ExtN H H' → (∀ a, H' a = none → H a = none) → TabsN T H' → (b = true ↔ ShowsP S R R' ps) → Q (.bl b) H') ∧ (likeB S S' = false → ∀ H', Ex H H' → E (.ref CU) none H')
theorem pairB_nat {R R' : Pl} {x : Int × Int} (h : pairB R R' x = true) : x = (((natP x).1 : Int), ((natP x).2 : Int)) ∧ (natP x).1 < R.moods ∧ (natP x).2 < R'.moods := by
  unfold pairB at h
  simp only [Bool.and_eq_true, decide_eq_true_eq] at h
  obtain ⟨⟨h1, h2⟩, h3, h4⟩ := h
  unfold natP
  refine ⟨Prod.ext ?_ ?_, ?_, ?_⟩ <;> simp <;> omega
section
variable {P : Program} {w : World} {K : PySem.W.Frag} {mg : Str → Option Value} {base : Heap} {CB CR CU : Addr} {T : List NTab}
abbrev nShows : List Str := ["one", "other", "pairs", "pair"]
theorem scShows : FnScope nShows ["one", "other", "pairs"] (defScope sShows) := ⟨rfl, rfl, rfl, by decide +kernel, rfl, by decide +kernel, by decide +kernel⟩
theorem ok_shows {f : Addr} {fd : FuncData} (F : Fun K "shows" "shows" sShows f fd) (G : GlobS mg) (TR : ReadT K mg CR) (BA : OneX P w K mg base "check_alike" 2 ["one", "other"] (spAlike K CB CR CU)) (BP : OneF P w K mg base "is_pair" 2 ["one", "other", "pair"] (spPairs K CB CR pairB)) (BF : OneF P w K mg base "is_fair" 2 ["one", "other", "pair"] (spPairs K CB CR fairB))
    (B1 : OneM P w K mg base CR "book" 1 ["self"] (spRBook K CB CR)) (BC : OneF P w K mg base "is_closed" 4 ["book", "lead", "states"] (spClosed K CB (spClo FPL ["one", "other"] (spPLead K CB CR)))) (BQ : OneF P w K mg base "paired" 1 ["one", "other"] (spPaired T)) :
    FnOk P w K mg base (L2.CX P w) 5 f fd ["one", "other", "pairs"] (spShows K CB CR CU T) := by
  obtain ⟨fC, dC, mC, kC, gC, bC⟩ := BA
  obtain ⟨fP, dP, mP, kP, gP, bP⟩ := BP
  obtain ⟨fF, dF, mF, kF, gF, bF⟩ := BF
  obtain ⟨f1, d1, m1, g1, b1⟩ := B1
  obtain ⟨fL, dL, mL, kL, gL, bL⟩ := BC
  obtain ⟨fQ, dQ, mQ, kQ, gQ, bQ⟩ := BQ
  refine F.okX scShows (fun vs H Q E h => ?_) (fun cdv A outer s0 H vs Q E hr h => ?_)
  · obtain ⟨p, p', v, S, S', R, R', ps, rfl, _⟩ := h
    rfl
  · obtain ⟨p, p', v, S, S', R, R', ps, rfl, hR, hR', gR, gR', hK, n1, n2, hS, hv, hps, hT, qy, qn⟩ := h
    have hr1 : Room 1 _ := hr.mono (show 1 ≤ 4 by decide)
    have hr2 : Room 2 _ := hr.mono (show 2 ≤ 4 by decide)
    refine ⟨_, (pss_cons (ps_expr (pe_call (E := E) gC hr2 rfl mC kC bC .nil (passes_call (takes_of rfl rfl rfl rfl) fun _ _ _ _ h => h) (pa_cons (pv 0) (pa_cons (pv 1) pa_nil))))
      (pss_cons (ps_if (pt_not (pt_val (pe_callB (cr_all rfl) (by rfl) G.all (by decide +kernel) (pa_cons (pe_lc (own := [("pair", 3)]) (g := gName 3) (tt := tYes) rfl scShows.nd (pi_list (pv 2))
      (blkOk_by (N := nShows) (sc := defScope sShows) (by decide +kernel)) (fun _ _ _ _ _ => pg_name (i := 3) scShows.nd rfl (.inl rfl)) (fun _ _ _ _ _ => pts_nil)
      (fun _ _ _ _ _ => pe_and (pe_call gP hr2 rfl mP kP bP .nil pass0 (pa_cons (pv 0) (pa_cons (pv 1) (pa_cons (pv 3) pa_nil)))) (pe_one (pe_call gF hr2 rfl mF kF bF .nil pass0 (pa_cons (pv 0) (pa_cons (pv 1) (pa_cons (pv 3) pa_nil))))))) pa_nil)))) (pss_one (ps_ret pe_bl)) pss_nil)
      (pss_one (ps_ret (pe_call gL hr rfl mL kL bL .nil pass0 (pa_cons (pe_meth0 (pv 0) TR.cl m1 g1 hr1 b1 .nil pass0) (pa_cons (pe_call gQ hr1 rfl mQ kQ bQ .nil pass0 (pa_cons (pv 0) (pa_cons (pv 1) pa_nil))) (pa_cons (pv 2) pa_nil)))))))), ?_⟩
    refine ⟨_, rfl, _, rfl, p, p', S, S', R, R', rfl, hR, hR', n1, n2, fun hl => ?_, fun hl => qn hl H (Ex.refl H)⟩
    have eS := likeB_eq hl
    subst eS
    have hall : EvT (tB (tCB (rAll K) (tCons (tLc (iList K (tVar 2)) (gName 3) tYes (tAndV (tCall (spPairs K CB CR pairB) [] E0 (tCons (tVar 0) (tCons (tVar 1) (tCons (tVar 3) tNil)))) (tCall (spPairs K CB CR fairB) [] E0 (tCons (tVar 0) (tCons (tVar 1) (tCons (tVar 3) tNil))))) [3]) tNil))) (start nShows [.ref p, .ref p', v]) H (ps.all fun x => pairB R R' x && fairB R R' x) := by
      refine et_is (evt_B (K := K) (M := MF) (evd_all (bs := ps.map fun x => pairB R R' x && fairB R R' x) (eva_cons (((evn_lcM (K := K) (M := MF) (bs := ps) qD (fun x => .bool (pairB R R' x && fairB R R' x)) okF (evd_var (i := 2) rfl hv) (Nat.lt_of_le_of_lt hps (by decide)) fun M' x y H' hM ok' hb e dx Qg qg => ?_).data okF).mono fun d hd => ?_) eva_nil))) ?_
      · exact qg _ H' (Ex.refl _) ⟨rfl, evt_yes, fun _ => evd_andV (evd_pairsC (i := 0) (j := 1) rfl rfl (hR.ex e) (hR'.ex e) (evd_var (i := 3) rfl dx)) fun _ => evd_pairsC (i := 0) (j := 1) rfl rfl (hR.ex e) (hR'.ex e) (evd_var (i := 3) rfl dx)⟩
      · obtain ⟨ds, rfl, rfl⟩ := hd
        rw [List.map_map]
        rfl
      · rw [List.all_map]
        rfl
    have gone : ∀ {H1 H2 : Hp}, Ex H1 H2 → ∀ a, H2 a = none → H1 a = none := fun {H1 H2} e a h => by
      cases h1 : H1 a with
      | none => rfl
      | some o =>
        rw [e _ _ h1] at h
        cases h
    refine q_when (evt_not hall) (fun hb H1 e1 => ?_) (fun hb H1 e1 => ?_)
    · refine qy hl false H1 (ExtN.of e1) (gone e1) (hT.ext e1) ⟨fun z => (nomatch z), fun ⟨h, _⟩ => ?_⟩
      have : (ps.all fun x => pairB R R' x && fairB R R' x) = true := List.all_eq_true.mpr fun x hx => by
        obtain ⟨h1, h2⟩ := h x hx
        rw [h1, h2]
        rfl
      rw [this] at hb
      cases hb
    · rw [Bool.not_eq_false', List.all_eq_true] at hb
      have hpf : ∀ x ∈ ps, pairB R R' x = true ∧ fairB R R' x = true := fun x hx => by
        have := hb x hx
        rw [Bool.and_eq_true] at this
        exact this
      have enc : ps.map qD = (ps.map natP).map pD := by
        rw [List.map_map]
        apply List.map_congr_left
        intro x hx
        obtain ⟨h1, _⟩ := pairB_nat (hpf x hx).1
        show tupI [x.1, x.2] = tupI [((natP x).1 : Int), ((natP x).2 : Int)]
        rw [← show x.1 = ((natP x).1 : Int) from congrArg Prod.fst h1, ← show x.2 = ((natP x).2 : Int) from congrArg Prod.snd h1]
      have hR1 := hR.ex e1
      have hR1' := hR'.ex e1
      have hR10 := hR1
      obtain ⟨dx, pb0, lt, ll, k1, _⟩ := hR10
      refine ⟨_, rfl, p, dx, _, rfl, k1, rflds_no _ _ _ _ (by decide +kernel) (by decide +kernel) (by decide +kernel) (by decide +kernel), MF, p, S, R, rfl, hR1, fun pb hB => ⟨_, rfl, _, rfl, .ref p, .ref p', rfl, hT.ext e1, fun fq Fq H2 e2 n2 T2 f0 hF hc => ⟨_, rfl, pb, fq, FnO fq Fq, v, S, ledP R R', ps.map natP, rfl, hB.exN e2, hK, hS, hc.fn, .inr ⟨Fq, rfl⟩, by rw [← enc]; exact (hv.ex e1).exN e2, by rw [List.length_map]; exact hps, fun s k z H' Q' E' e' hs hkl hkp hz q' => ?_, fun b H3 e3 hb3 => ?_⟩⟩⟩
      · have hc' := hc.ex e'
        have hC := hc'.hC
        refine ⟨Fq, [.ref p, .ref p'], hF, hc', p, p', S, R, R', s, z, k, rfl, rfl, ((hR1.exN e2).ex e').hid hC, ((hR1'.exN e2).ex e').hid hC, hz.hid hC, gR, gR', hK, hs, hkl, fun x hx => ?_, fun x H4 e4 dx4 hn => q' x _ (ex_reh hC e4) (dx4.reh hn)⟩
        obtain ⟨y, hy, rfl⟩ := List.mem_map.mp (hkp x hx)
        exact (pairB_nat (hpf y hy).1).2
      · refine qy hl b H3 (fun a o h n => e3 _ _ (e2 _ _ (e1 _ _ h) n)) (fun a h => gone e1 a (n2 a (gone e3 a h))) (T2.ext e3) ?_
        rw [hb3]
        exact ⟨fun h => ⟨hpf, h⟩, fun h => h.2⟩
end
end TH
set_option maxRecDepth 100000
set_option maxHeartbeats 4000000
namespace TH
open PySem L2 Evl
abbrev sLDue : Stmt := top 49
structure GlobZ (mg : Str → Option Value) : Prop where
  sorted : mg "sorted" = none
  set : mg "set" = none
def spLDue (K : PySem.W.Frag) : Sp := fun vs H Q _ => ∃ (v y y' z : V) (S : List Sg) (R R' : Pl) (ps : List (Int × Int)), vs = [v, y, y', z] ∧ Dt K MF H v (.list (S.map sgD)) ∧ Dt K MF H y (plD R) ∧ Dt K MF H y' (plD R') ∧ Dt K MF H z (.list (ps.map qD)) ∧ GoodR S R ∧ GoodR S R' ∧ KidsOk S ∧ S.length ≤ 100 ∧ ps.length < 64 ∧ R.moods * R'.moods ≤ 40 ∧
  ∀ (b : Bool) (H' : Hp), Ex H H' → (b = true ↔ ShowsP S R R' ps) → Q (.bl b) H'
section
variable {K : PySem.W.Frag} {M M' : Addr → Prop} {H H1 H' : Hp} {σ : L2.St} {ta tb tc te : TE} {E : XK} {S : List Sg} {R : Pl}
theorem evd_ledL {s : Nat} {k : List Nat} (ha : EvD K MF ta σ H (plD R)) (hb : EvD K MF tb σ H (.int (s : Int))) (hc : EvNew K MF tc σ H (· = (ofN k).map PyData.int)) (g : GoodR S R) (hK : KidsOk S) (hs : s < S.length) (hk : k.length = ks S s) (hm : ∀ x ∈ k, x < R.moods) :
    EvD K M (tCall (spLLedL K) [] E (tCons ta (tCons tb (tCons tc tNil)))) σ H (.int (ledN R s k : Int)) := fun H1 e Q q =>
  ha H1 e _ fun v d H2 e2 dv pd => hb H2 (e.trans e2) _ fun v' d' H3 e3 dv' pd' => hc H3 ((e.trans e2).trans e3) _ fun l xs ds H4 hl e4 hl4 dxs pds => by
    subst pd pd' pds
    cases dv'
    have ex := dxs.ints
    subst ex
    rw [nums_of] at hl4
    exact ⟨MF, v, .ref l, S, R, s, k, rfl, (dv.ex e3).ex e4, ⟨l, rfl, SqL.of hl4⟩, g, hK, hs, hk, hm, fun H5 e5 => q _ _ H5 (((e2.trans e3).trans e4).trans e5) (.int _) rfl⟩
theorem any_pD (L : List (Nat × Nat)) (p : Nat × Nat) : ((L.map pD).any fun z => PyData.eqv z (pD p)) = decide (p ∈ L) := by
  induction L with
  | nil => rfl
  | cons q L ih =>
    rw [List.map_cons, List.any_cons, ih]
    have : PyData.eqv (pD q) (pD p) = decide (q = p) := by
      unfold pD
      rw [eqv_tupI]
      by_cases e : q = p
      · rw [decide_eq_true e, e]
        simp
      · rw [decide_eq_false e, decide_eq_false]
        intro z
        apply e
        simp only [List.cons.injEq, and_true] at z
        exact Prod.ext (by omega) (by omega)
    rw [this]
    by_cases e : q = p
    · rw [decide_eq_true e, e, decide_eq_true List.mem_cons_self]
      rfl
    · rw [decide_eq_false e, Bool.false_or]
      by_cases h : p ∈ L
      · rw [decide_eq_true h, decide_eq_true (List.mem_cons_of_mem _ h)]
      · rw [decide_eq_false h, decide_eq_false fun z => (List.mem_cons.mp z).elim (fun z => e z.symm) h]
theorem flat_pD (p : Nat × Nat) : Flat 1 (pD p) := flat_tupI _
theorem evd_notInP {L : List (Nat × Nat)} {p : Nat × Nat} (ha : EvD K M ta σ H (pD p)) (hb : EvD K M tb σ H (.list (L.map pD))) : EvD K M (tOp (rNotInD K) ta tb) σ H (.bool (!decide (p ∈ L))) :=
  evp_op ha hb fun x y a b H1 e dx dy px py Q q => by
    subst px py
    refine ⟨_, _, dx.dp, dy.dp, (flat_pD p).shaped (by decide), (flat_list (n := 1) fun d hd => ?_).shaped (by decide), ?_⟩
    · obtain ⟨z, _, rfl⟩ := List.mem_map.mp hd
      exact flat_pD z
    · rw [any_pD]
      exact q _ _ H1 (Ex.refl _) (.bl _) rfl
theorem dt_pD {v : V} {p : Nat × Nat} (h : Dt K M H v (pD p)) : Dt K M' H v (pD p) := dt_any h
theorem flD_pD (K : PySem.W.Frag) (L : List (Nat × Nat)) : FlD K (L.map pD) := fun d hd M M' H v h => by
  obtain ⟨p, _, rfl⟩ := List.mem_map.mp hd
  exact dt_any h
/-- the numbers of some pairs, put apart -/
theorem evn_part {f : Nat × Nat → Nat} {j i : Nat} {k : List (Nat × Nat)} {x : V} {vs : List Nat} (hx : σ[i]? = some (some x)) (dx : Dt K MF H x (.tuple (k.map pD))) (hl : k.length ≤ 1000)
    (hs : ∀ (M' : Addr → Prop) (b : Nat × Nat) (y : V) (H' : Hp), Dt K M' H' y (pD b) → EvD K M' te ((wipe σ vs).set j (some y)) H' (.int (f b : Int))) (hw : ∀ y : V, wipe ((wipe σ vs).set j (some y)) vs = wipe σ vs) :
    EvNew K MF (tLc (iTup K (tVar i)) (gName j) tYes te vs) σ H (· = (ofN (k.map f)).map PyData.int) := fun H1 e Q q =>
  evn_lcTM (K := K) (M := MF) (bs := k) pD (fun p => .int (f p : Int)) okF (evd_var (i := i) hx dx) (Nat.lt_of_le_of_lt hl (by decide)) (fun M' b y H' hM ok' hb e dy Qg qg => qg _ H' (Ex.refl _) ⟨hw y, evt_yes, fun _ => hs M' b y H' dy⟩) H1 e Q fun l xs ds H2 hl e2 hl2 dxs pds => by
    subst pds
    refine q l xs _ H2 hl e2 hl2 ?_ rfl
    have : k.map (fun p => PyData.int (f p : Int)) = (ofN (k.map f)).map PyData.int := by
      unfold ofN
      rw [List.map_map, List.map_map]
      rfl
    rw [← this]
    exact dxs
end
section
variable {P : Program} {w : World} {K : PySem.W.Frag} {mg : Str → Option Value} {base : Heap}
abbrev nLDue : List Str := ["_law_signs_here", "_law_one", "_law_other", "_law_pairs_here", "_law_left", "_law_right", "_law_some", "_law_sign", "_law_row", "_law_pair", "_law_kid"]
theorem scLDue : FnScope nLDue ["_law_signs_here", "_law_one", "_law_other", "_law_pairs_here"] (defScope sLDue) := ⟨rfl, rfl, rfl, by decide +kernel, rfl, by decide +kernel, by decide +kernel⟩
theorem ok_ldue {f : Addr} {fd : FuncData} (F : Fun K "_law_due" "_law_due" sLDue f fd) (G : Glob mg) (GD : GlobZ mg) (B1 : OneF P w K mg base "_law_choices" 1 ["_law_things", "_law_count"] (spLChG K)) (B2 : OneF P w K mg base "_law_led" 1 ["_law_plain", "_law_sign", "_law_kids"] (spLLedL K)) :
    FnOk P w K mg base CX0 2 f fd ["_law_signs_here", "_law_one", "_law_other", "_law_pairs_here"] (spLDue K) := by
  obtain ⟨f1, d1, m1, k1, g1, b1⟩ := B1
  obtain ⟨f2, d2, m2, k2, g2, b2⟩ := B2
  refine F.ok scLDue (fun vs H Q E h => ?_) (fun cdv A outer s0 H vs Q E hr h => ?_)
  · obtain ⟨v, y, y', z, S, R, R', ps, rfl, _⟩ := h
    rfl
  · obtain ⟨v, y, y', z, S, R, R', ps, rfl, hv, hy, hy', hz, gR, gR', hK, hS, hps, hmm, q⟩ := h
    have hu := hu64 hr
    have hu65 : (A.deeper (PyProof.Rows.envOfC "_law_due" (defScope sLDue) s0.heap.objs.size f cdv)).units + 65 < cLine := by
      have := hr.un
      omega
    refine ⟨_, (pss_cons (ps_for PassesOwn.never rfl (pi_list (pv 3)) (pg_tup rfl (pgs_cons (pg_name (i := 4) scLDue.nd rfl (.inl rfl)) (pgs_cons (pg_name (i := 5) scLDue.nd rfl (.inl rfl)) pgs_nil)))
      (pss_cons (ps_if (PW.pt (pw_or (pt_not (pt_chain op_le op_lt pe_int (pv 4) (pe_ix ix_tup (pv 1) pe_int (fun _ _ => rfl)))) (pw_or1 (pt_not (pt_chain op_le op_lt pe_int (pv 5) (pe_ix ix_tup (pv 2) pe_int (fun _ _ => rfl))))))) (pss_one (ps_ret pe_bl)) pss_nil)
      (pss_one (ps_if (pt_cmpR op_ne (pe_cmpR op_in_seq (pv 4) (pe_ix ix_tup (pv 1) pe_int (fun _ _ => rfl)) (by rfl)) (pe_cmpR op_in_seq (pv 5) (pe_ix ix_tup (pv 2) pe_int (fun _ _ => rfl)) (by rfl)) (nomark _)) (pss_one (ps_ret pe_bl)) pss_nil))))
      (pss_cons (ps_set (i := 6) scLDue.nd rfl (.inl rfl) (pe_callB (cr_sortedSetD rfl hu) (by rfl) GD.sorted (by decide +kernel) (pa_cons (pe_callTy (cr_setOfT rfl hu) (by rfl) GD.set (by decide +kernel) (pa_cons (pv 3) pa_nil)) pa_nil)))
      (pss_cons (ps_for PassesOwn.never rfl (pi_range1 rfl G.range (pa_cons (pe_callB call_len_seq (by rfl) G.len PySem.boot_len (pa_cons (pv 0) pa_nil)) pa_nil)) (pg_name (i := 7) scLDue.nd rfl (.inl rfl))
      (pss_one (ps_for PassesOwn.never rfl (pi_list (pe_call g1 hr rfl m1 k1 b1 .nil pass0 (pa_cons (pv 6) (pa_cons (pe_ix ix_tup (pe_ix ix_list (pv 0) (pv 7) (fun _ _ => rfl)) pe_int (fun _ _ => rfl)) pa_nil)))) (pg_name (i := 8) scLDue.nd rfl (.inl rfl))
      (pss_cons (ps_set (i := 9) scLDue.nd rfl (.inl rfl) (pe_tup (pa_cons (pe_call g2 hr rfl m2 k2 b2 .nil pass0 (pa_cons (pv 1) (pa_cons (pv 7) (pa_cons (pe_lc (own := [("_law_kid", 10)]) (g := gName 10) (tt := tYes) rfl scLDue.nd (pi_tup (pv 8))
      (blkOk_by (N := nLDue) (sc := defScope sLDue) (by decide +kernel)) (fun _ _ _ _ _ => pg_name (i := 10) scLDue.nd rfl (.inl rfl)) (fun _ _ _ _ _ => pts_nil)
      (fun _ _ _ _ _ => pe_ix (ix_tupK (K := K) rfl) (pv 10) pe_int (fun _ _ => rfl))) pa_nil)))) (pa_cons (pe_call g2 hr rfl m2 k2 b2 .nil pass0 (pa_cons (pv 2) (pa_cons (pv 7) (pa_cons (pe_lc (own := [("_law_kid", 10)]) (g := gName 10) (tt := tYes) rfl scLDue.nd (pi_tup (pv 8))
      (blkOk_by (N := nLDue) (sc := defScope sLDue) (by decide +kernel)) (fun _ _ _ _ _ => pg_name (i := 10) scLDue.nd rfl (.inl rfl)) (fun _ _ _ _ _ => pts_nil)
      (fun _ _ _ _ _ => pe_ix (ix_tupK (K := K) rfl) (pv 10) pe_int (fun _ _ => rfl))) pa_nil)))) pa_nil))))
      (pss_one (ps_if (pt_cmpR (op_notInD (Nat.lt_of_le_of_lt (Nat.le_refl _) hu65)) (pv 9) (pv 6) (by rfl)) (pss_one (ps_ret pe_bl)) pss_nil))))))
      (pss_one (ps_ret pe_bl))))), ?_⟩
    obtain ⟨a, xs, rfl, h1, h3⟩ : ∃ a xs, z = .ref a ∧ H a = some (.lst xs) ∧ Dts K MF H xs (ps.map qD) := by
      cases hz with
      | lst h1 h2 h3 => exact ⟨_, _, rfl, h1, h3⟩
    have hxl : xs.length = ps.length := by rw [h3.length, List.length_map]
    have nv : ∀ {b : Bool} {x : Int × Int}, x ∈ ps → (pairB R R' x && fairB R R' x) = false → (false = true ↔ ShowsP S R R' ps) := fun {b x} hx h => ⟨fun z => (nomatch z), fun ⟨z, _⟩ => by
      obtain ⟨z1, z2⟩ := z x hx
      rw [z1, z2] at h
      cases h⟩
    refine q_forL (K := K) (a := a) (xs := xs) (ev_var (i := 3) rfl) (sq_of h1)
      (fun i σ' H' => Ex H H' ∧ (∀ x ∈ ps.take i, pairB R R' x = true ∧ fairB R R' x = true) ∧ ∃ u4 u5, σ' = [some v, some y, some y', some (.ref a), u4, u5, none, none, none, none, none])
      (fun H1 e1 => ⟨e1, fun x h => (by rw [List.take_zero] at h; exact (nomatch h)), none, none, rfl⟩) (fun i σ' H' _ h => sq_of (h.1 _ _ h1)) ?_ ?_
    · rintro i t σ' H1 ht ⟨e1, hd, u4, u5, rfl⟩
      obtain ⟨d, hdd, dt⟩ := h3.get ht
      rw [List.getElem?_map] at hdd
      cases hx : ps[i]? with
      | none =>
        rw [hx] at hdd
        cases hdd
      | some x =>
      rw [hx] at hdd
      cases hdd
      have hxm := List.mem_of_getElem? hx
      obtain ⟨tp, rfl, htp⟩ := dt_tupS (dt.ex e1)
      refine ⟨_, _, rfl, SqT.of htp, rfl, _, _, rfl, _, _, rfl, rfl, ?_⟩
      refine q_when (b := !pairB R R' x) (et_is (et_or (evt_not (evt_test (K := K) (M := MF) (evd_chainI (g := fun i j => decide (i ≤ j)) (g' := fun i j => decide (i < j)) evd_int (evd_var (i := 4) rfl (.int _)) (evd_ixT (j := 0) (ds := [.int (R.moods : Int), .list (R.tables.map intsD), intsD R.liked]) (evd_var (i := 1) (d := plD R) rfl (hy.ex e1)) evd_int rfl rfl)))) fun _ => evt_not (evt_test (K := K) (M := MF) (evd_chainI (g := fun i j => decide (i ≤ j)) (g' := fun i j => decide (i < j)) evd_int (evd_var (i := 5) rfl (.int _)) (evd_ixT (j := 0) (ds := [.int (R'.moods : Int), .list (R'.tables.map intsD), intsD R'.liked]) (evd_var (i := 2) (d := plD R') rfl (hy'.ex e1)) evd_int rfl rfl)))) (Bool.not_and _ _).symm) (fun hb H2 e2 => ?_) (fun hb H2 e2 => ?_)
      · exact q false H2 (e1.trans e2) (nv (b := true) hxm (by rw [Bool.not_eq_true'] at hb; rw [hb]; rfl))
      · have e12 := e1.trans e2
        rw [Bool.not_eq_false'] at hb
        refine s_when (b := !fairB R R' x) (evt_test (K := K) (M := MF) (evd_neB (i := decide (x.1 ∈ ofN R.liked)) (j := decide (x.2 ∈ ofN R'.liked)) (evd_inI (z := x.1) (ys := ofN R.liked) (evd_var (i := 4) rfl (.int _)) (evd_ixT (j := 2) (ds := [.int (R.moods : Int), .list (R.tables.map intsD), intsD R.liked]) (evd_var (i := 1) (d := plD R) rfl (hy.ex e12)) evd_int rfl rfl)) (evd_inI (z := x.2) (ys := ofN R'.liked) (evd_var (i := 5) rfl (.int _)) (evd_ixT (j := 2) (ds := [.int (R'.moods : Int), .list (R'.tables.map intsD), intsD R'.liked]) (evd_var (i := 2) (d := plD R') rfl (hy'.ex e12)) evd_int rfl rfl)))) (fun hb2 H3 e3 => ?_) (fun hb2 H3 e3 => ?_)
        · exact q false H3 (e12.trans e3) (nv (b := true) hxm (by rw [Bool.not_eq_true'] at hb2; rw [hb, hb2]; rfl))
        · rw [Bool.not_eq_false'] at hb2
          refine ⟨e12.trans e3, fun x' hx' => ?_, _, _, rfl⟩
          rw [List.take_add_one, hx] at hx'
          rcases List.mem_append.mp hx' with h | h
          · exact hd x' h
          · rw [List.mem_singleton.mp h]
            exact ⟨hb, hb2⟩
    rintro σ' H1 ⟨e1, hd, u4, u5, rfl⟩
    rw [hxl, List.take_length] at hd
    have enc : ps.map qD = (ps.map fun x => [x.1.toNat, x.2.toNat]).map kD := by
      rw [List.map_map]
      apply List.map_congr_left
      intro x hx
      obtain ⟨h1, _⟩ := pairB_nat (hd x hx).1
      show tupI [x.1, x.2] = tupI [((natP x).1 : Int), ((natP x).2 : Int)]
      rw [← show x.1 = ((natP x).1 : Int) from congrArg Prod.fst h1, ← show x.2 = ((natP x).2 : Int) from congrArg Prod.snd h1]
    refine q_asgN (K := K) (M := MF) (evn_sortedsetN (ts := ps.map fun x => [x.1.toNat, x.2.toNat]) (fun t ht => by obtain ⟨x, _, rfl⟩ := List.mem_map.mp ht; simp) (by rw [List.length_map]; exact hps) (by rw [← enc]; exact evd_var (i := 3) rfl (.lst (e1 _ _ h1) (fun z => z) (h3.ex e1)))) fun l ys ds H2 hl e2 hl2 dys pds => ?_
    obtain ⟨us, rfl, nd, mem, l64⟩ := pds
    have form : ∀ u ∈ us, ∃ p : Nat × Nat, u = [p.1, p.2] ∧ p ∈ ps.map natP ∧ p.1 < R.moods ∧ p.2 < R'.moods := fun u hu => by
      obtain ⟨x, hx, rfl⟩ := List.mem_map.mp ((mem u).mp hu)
      exact ⟨natP x, rfl, List.mem_map.mpr ⟨x, hx, rfl⟩, (pairB_nat (hd x hx).1).2⟩
    obtain ⟨L, hLe, hLm, hLl⟩ : ∃ L : List (Nat × Nat), us.map kD = L.map pD ∧ (∀ p, p ∈ L ↔ p ∈ ps.map natP) ∧ L.length ≤ 40 := by
      refine ⟨us.map fun u => (u.getD 0 0, u.getD 1 0), ?_, fun p => ?_, ?_⟩
      · rw [List.map_map]
        apply List.map_congr_left
        intro u hu
        obtain ⟨p, rfl, _⟩ := form u hu
        rfl
      · rw [List.mem_map]
        constructor
        · rintro ⟨u, hu, rfl⟩
          obtain ⟨p, rfl, hp, _⟩ := form u hu
          exact hp
        · intro hp
          obtain ⟨x, hx, rfl⟩ := List.mem_map.mp hp
          exact ⟨[x.1.toNat, x.2.toNat], (mem _).mpr (List.mem_map.mpr ⟨x, hx, rfl⟩), rfl⟩
      · rw [List.length_map]
        refine Nat.le_trans (pigeon nd (ws := (List.range R.moods).flatMap fun a => (List.range R'.moods).map fun b => [a, b]) fun u hu => ?_) ?_
        · obtain ⟨p, rfl, _, h1, h2⟩ := form u hu
          exact List.mem_flatMap.mpr ⟨p.1, List.mem_range.mpr h1, List.mem_map.mpr ⟨p.2, List.mem_range.mpr h2, rfl⟩⟩
        · rw [flat_le _ (m := R'.moods) (fun a => by rw [List.length_map, List.length_range]), List.length_range]
          exact hmm
    rw [hLe] at dys
    have e02 := e1.trans e2
    refine q_forR1 (n := (S.length : Int)) (evA_I (K := K) (M := MF) ((evd_lenL (es := S.map sgD) (eva_cons (evd_var (i := 0) rfl (hv.ex e02)) eva_nil)).mono fun d h => by rw [h, List.length_map])) (by omega)
      (fun i σ' H' => Ex H H' ∧ Ex H2 H' ∧ (∀ s, s < i → ∀ k : List (Nat × Nat), k.length = ks S s → (∀ x ∈ k, x ∈ ps.map natP) → ledP R R' s k ∈ ps.map natP) ∧ ∃ u7 u8 u9, σ' = [some v, some y, some y', some (.ref a), u4, u5, some (.ref l), u7, u8, u9, none])
      (fun H3 e3 => ⟨e02.trans e3, e3, fun s h => absurd h (Nat.not_lt_zero s), none, none, none, rfl⟩) ?_ ?_
    · rintro s σ' H3 hs ⟨e3, e23, done, u7, u8, u9, rfl⟩
      have hsS : s < S.length := by omega
      have hks2 := ks_le hK s
      have dL : ∀ {H'}, Ex H2 H' → Dt K MF H' (.ref l) (.list (L.map pD)) := fun e => .lst (e _ _ hl2) (fun z => z) (dys.ex e)
      refine ⟨_, rfl, (evd_ks (K := K) (M := MF) (i := 0) (hv.ex e3) hK hsS rfl (evd_var (i := 7) rfl (.int (s : Int)))) H3 (Ex.refl _) _ fun vk dk H4 e4 dvk pk => ?_⟩
      subst pk
      cases dvk
      refine ⟨.ref l, L.map pD, ks S s, rfl, dL (e23.trans e4), flD_pD K L, hks2, by rw [List.length_map]; exact hLl, fun l5 refs H5 hl5 e5 hlr dr => ?_⟩
      have e35 := e4.trans e5
      rw [chsG_map, List.map_map] at dr
      have hrl : refs.length = (chsG L (ks S s)).length := by rw [dr.length, List.length_map]
      refine ⟨l5, rfl, ⟨_, sq_of hlr⟩, for_list (K := K) (a := l5) (xs := refs) (fun j σ' H' => Ex H3 H' ∧ Ex H5 H' ∧ (∀ k ∈ (chsG L (ks S s)).take j, ledP R R' s k ∈ ps.map natP) ∧ ∃ u8 u9, σ' = [some v, some y, some y', some (.ref a), u4, u5, some (.ref l), some (.int (s : Int)), u8, u9, none])
        ⟨e35, Ex.refl _, fun k hk => (by rw [List.take_zero] at hk; exact (nomatch hk)), u8, u9, rfl⟩ (fun j σ' H' _ h => sq_of (h.2.1 _ _ hlr)) ?_ ?_⟩
      · rintro j x σ' H6 hx ⟨e36, e56, dn, u8, u9, rfl⟩
        obtain ⟨d, hdd, dx⟩ := dr.get hx
        rw [List.getElem?_map] at hdd
        cases hkj : (chsG L (ks S s))[j]? with
        | none =>
          rw [hkj] at hdd
          cases hdd
        | some k =>
        rw [hkj] at hdd
        cases hdd
        obtain ⟨kl, km⟩ := chsG_row (List.mem_of_getElem? hkj)
        have kps : ∀ x ∈ k, x ∈ ps.map natP := fun x hx => (hLm x).mp (km x hx)
        have kb : ∀ x ∈ k, x.1 < R.moods ∧ x.2 < R'.moods := fun x hx => by
          obtain ⟨w, hw, rfl⟩ := List.mem_map.mp (kps x hx)
          exact (pairB_nat (hd w hw).1).2
        have dx6 : Dt K MF H6 x (.tuple (k.map pD)) := dt_tupF (flD_pD K k) (dx.ex e56)
        have e06 := e3.trans e36
        refine q_asgP (K := K) (M := MF) (P := (· = pD (ledP R R' s k))) ((evd_tup (eva_cons (evd_ledL (s := s) (k := k.map (·.1)) (evd_var (i := 1) rfl (hy.ex e06)) (evd_var (i := 7) rfl (.int _)) (evn_part (f := (·.1)) (i := 8) (j := 10) rfl dx6 (by rw [kl]; omega) (fun M' b y H' dy => evd_ixT (j := 0) (ds := [.int (b.1 : Int), .int (b.2 : Int)]) (evd_var (i := 10) rfl dy) evd_int rfl rfl) fun y => rfl) gR hK hsS (by rw [List.length_map, kl]) fun w hw => ?_) (eva_cons (evd_ledL (s := s) (k := k.map (·.2)) (evd_var (i := 2) rfl (hy'.ex e06)) (evd_var (i := 7) rfl (.int _)) (evn_part (f := (·.2)) (i := 8) (j := 10) rfl dx6 (by rw [kl]; omega) (fun M' b y H' dy => evd_ixT (j := 1) (ds := [.int (b.1 : Int), .int (b.2 : Int)]) (evd_var (i := 10) rfl dy) evd_int rfl rfl) fun y => rfl) gR' hK hsS (by rw [List.length_map, kl]) fun w hw => ?_) eva_nil)) (by show 2 ≤ sizeLine; decide)).mono fun d h => by rw [h]; rfl) fun v9 d9 H7 e7 dv9 p9 => ?_
        · obtain ⟨r, hr, rfl⟩ := List.mem_map.mp hw
          exact (kb r hr).1
        · obtain ⟨r, hr, rfl⟩ := List.mem_map.mp hw
          exact (kb r hr).2
        subst p9
        have e37 := e36.trans e7
        refine s_when (evt_test (K := K) (M := MF) (evd_notInP (L := L) (evd_var (i := 9) rfl dv9) (evd_var (i := 6) rfl (dL (e23.trans e37))))) (fun hb H8 e8 => ?_) (fun hb H8 e8 => ?_)
        · refine q false H8 ((e3.trans e37).trans e8) ⟨fun z => (nomatch z), fun z => ?_⟩
          have := z.2 s hsS k kl kps
          rw [decide_eq_true ((hLm _).mpr this)] at hb
          cases hb
        · refine ⟨e37.trans e8, (e56.trans e7).trans e8, fun k' hk' => ?_, _, _, rfl⟩
          rw [List.take_add_one, hkj] at hk'
          rcases List.mem_append.mp hk' with h | h
          · exact dn k' h
          · rw [List.mem_singleton.mp h]
            exact (hLm _).mp (Classical.byContradiction fun hn => by
              rw [decide_eq_false hn] at hb
              cases hb)
      · rintro σ' H6 ⟨e36, e56, dn, u8, u9, rfl⟩
        rw [hrl, List.take_length] at dn
        refine ⟨e3.trans e36, e23.trans e36, fun s' hs' k kl kps => ?_, _, u8, u9, rfl⟩
        by_cases e : s' = s
        · subst e
          exact dn k (mem_chsG kl fun x hx => (hLm x).mpr (kps x hx))
        · exact done s' (by omega) k kl kps
    · rintro σ' H3 ⟨e3, e23, done, u7, u8, u9, rfl⟩
      rw [Int.toNat_natCast] at done
      exact q true H3 e3 ⟨fun _ => ⟨hd, fun s hs k kl kps => done s hs k kl kps⟩, fun _ => rfl⟩
end
end TH
set_option maxRecDepth 100000
set_option maxHeartbeats 4000000
namespace TH
open PySem L2 Evl
abbrev sLPairs : Stmt := top 48
def unP : PyData → Nat × Nat
  | .tuple [.int a, .int b] => (a.toNat, b.toNat)
  | _ => (0, 0)
theorem unP_pD (p : Nat × Nat) : unP (pD p) = p := rfl
section
variable {K : PySem.W.Frag} {M M' : Addr → Prop} {H H1 H' : Hp} {σ : L2.St} {te : TE}
theorem zip_fstP : ∀ {xs : List V} {ds : List PyData}, Dts K M H xs ds → (xs.zip ds).map (·.1) = xs ∧ (xs.zip ds).map (·.2) = ds ∧ ∀ z ∈ xs.zip ds, Dt K M H z.1 z.2
  | _, _, .nil => ⟨rfl, rfl, fun z h => (nomatch h)⟩
  | _, _, .cons h t => by
    obtain ⟨h1, h2, h3⟩ := zip_fstP t
    refine ⟨by rw [List.zip_cons_cons, List.map_cons, h1], by rw [List.zip_cons_cons, List.map_cons, h2], fun z hz => ?_⟩
    rw [List.zip_cons_cons] at hz
    rcases List.mem_cons.mp hz with rfl | hz
    · exact h
    · exact h3 z hz
theorem dts_of_zipP : ∀ {zs : List (V × PyData)}, (∀ z ∈ zs, Dt K M H z.1 z.2) → Dts K M H (zs.map (·.1)) (zs.map (·.2))
  | [], _ => .nil
  | z :: zs, h => .cons (h z List.mem_cons_self) (dts_of_zipP fun y hy => h y (List.mem_cons_of_mem _ hy))
/-- sorted(..) of pairs of numbers -/
theorem evn_sortPD {L : List (Nat × Nat)} (h : EvD K M te σ H (.list (L.map pD))) : EvNew K M (tCB (L2.rSortD K) (tCons te tNil)) σ H (fun ds => ∃ L' : List (Nat × Nat), ds = L'.map pD ∧ L'.Perm L) := fun H1 e Q q =>
  h H1 e _ fun v d H2 e2 dv pd => by
    subst pd
    cases dv with
    | lst h1 h2 h3 =>
    rename_i a xs
    obtain ⟨z1, z2, z3⟩ := zip_fstP h3
    refine ⟨a, xs.zip (L.map pD), rfl, by rw [z1]; exact sq_of h1, fun z hz => ⟨(z3 z hz).dp, ?_⟩, ?_, ?_, fun p hp => ?_⟩
    · have : z.2 ∈ L.map pD := by
        rw [← z2]
        exact List.mem_map.mpr ⟨z, hz, rfl⟩
      obtain ⟨b, _, hb⟩ := List.mem_map.mp this
      rw [← hb]
      exact Nat.le_trans (flat_pD b).depth (by decide)
    · rw [z2]
      exact PySem.W.AllAlike.of fun b b' => rfl
    · rw [z2]
      exact .inl (PySem.W.Sortable.tuples fun b => ⟨_, _, rfl⟩)
    · have hperm : (((xs.zip (L.map pD)).mergeSort leZ).map (·.2)).Perm (L.map pD) := by
        have := (List.mergeSort_perm (xs.zip (L.map pD)) leZ).map (·.2)
        rw [z2] at this
        exact this
      refine q p _ _ _ (fresh_back e2 hp) (e2.trans (Ex.new hp)) upd_same ((dts_of_zipP fun z hz => z3 z ((List.mergeSort_perm _ _).mem_iff.mp hz)).ex (Ex.new hp)) ⟨(((xs.zip (L.map pD)).mergeSort leZ).map (·.2)).map unP, ?_, ?_⟩
      · rw [List.map_map]
        refine (List.map_id _).symm.trans (List.map_congr_left fun z hz => ?_)
        obtain ⟨b, _, rfl⟩ := List.mem_map.mp (hperm.mem_iff.mp hz)
        rfl
      · have := hperm.map unP
        have e : (L.map pD).map unP = L := by
          rw [List.map_map]
          exact (List.map_congr_left fun a _ => rfl).trans (List.map_id _)
        rw [e] at this
        exact this
end
/-- pairs that have been met -/
structure PInv (R R' : Pl) (L : List (Nat × Nat)) : Prop where
  nd : L.Nodup
  lt : ∀ p ∈ L, p.1 < R.moods ∧ p.2 < R'.moods
theorem PInv.le {R R' : Pl} {L : List (Nat × Nat)} (i : PInv R R' L) : L.length ≤ R.moods * R'.moods := by
  refine Nat.le_trans (pigeon i.nd (ws := (List.range R.moods).flatMap fun a => (List.range R'.moods).map fun b => (a, b)) fun p hp => ?_) ?_
  · obtain ⟨h1, h2⟩ := i.lt p hp
    exact List.mem_flatMap.mpr ⟨p.1, List.mem_range.mpr h1, List.mem_map.mpr ⟨p.2, List.mem_range.mpr h2, rfl⟩⟩
  · rw [flat_le _ (m := R'.moods) (fun a => by rw [List.length_map, List.length_range]), List.length_range]
    exact Nat.le_refl _
def spLPairs (K : PySem.W.Frag) : Sp := fun vs H Q _ => ∃ (v y y' : V) (S : List Sg) (R R' : Pl), vs = [v, y, y'] ∧ Dt K MF H v (.list (S.map sgD)) ∧ Dt K MF H y (plD R) ∧ Dt K MF H y' (plD R') ∧ GoodR S R ∧ GoodR S R' ∧ KidsOk S ∧ S.length ≤ 100 ∧ R.moods * R'.moods ≤ 40 ∧ (∃ s, s < S.length ∧ ks S s = 0) ∧
  ∀ l refs (L : List (Nat × Nat)) H', H l = none → Ex H H' → H' l = some (.lst refs) → Dts K MT H' refs (L.map pD) → PInv R R' L → 1 ≤ L.length → Q (.ref l) H'
section
variable {P : Program} {w : World} {K : PySem.W.Frag} {mg : Str → Option Value} {base : Heap}
abbrev nLPairs : List Str := ["_law_signs_here", "_law_one", "_law_other", "_law_found", "_law_fresh", "_law_sign", "_law_row", "_law_pair", "_law_kid"]
theorem scLPairs : FnScope nLPairs ["_law_signs_here", "_law_one", "_law_other"] (defScope sLPairs) := ⟨rfl, rfl, rfl, by decide +kernel, rfl, by decide +kernel, by decide +kernel⟩
theorem ok_lpairs {f : Addr} {fd : FuncData} (F : Fun K "_law_pairs" "_law_pairs" sLPairs f fd) (G : Glob mg) (GD : GlobZ mg) (B1 : OneF P w K mg base "_law_choices" 1 ["_law_things", "_law_count"] (spLChG K)) (B2 : OneF P w K mg base "_law_led" 1 ["_law_plain", "_law_sign", "_law_kids"] (spLLedL K)) :
    FnOk P w K mg base CX0 2 f fd ["_law_signs_here", "_law_one", "_law_other"] (spLPairs K) := by
  obtain ⟨f1, d1, m1, k1, g1, b1⟩ := B1
  obtain ⟨f2, d2, m2, k2, g2, b2⟩ := B2
  refine F.ok scLPairs (fun vs H Q E h => ?_) (fun cdv A outer s0 H vs Q E hr h => ?_)
  · obtain ⟨v, y, y', S, R, R', rfl, _⟩ := h
    rfl
  · obtain ⟨v, y, y', S, R, R', rfl, hv, hy, hy', gR, gR', hK, hS, hmm, hleaf, q⟩ := h
    have hu := hu64 hr
    have hu65 : (A.deeper (PyProof.Rows.envOfC "_law_pairs" (defScope sLPairs) s0.heap.objs.size f cdv)).units + 65 < cLine := by
      have := hr.un
      omega
    refine ⟨_, (pss_cons (ps_par (by rfl) scLPairs.nd (i := 3) (j := 4) rfl rfl (by decide) rfl rfl (pa_cons (pe_lst pa_nil) (pa_cons pe_bl pa_nil)) (by rfl))
      (pss_cons (ps_while PassesOwn.never (pt_val (pv 4))
      (pss_cons (ps_set (i := 4) scLPairs.nd rfl (.inl rfl) pe_bl)
      (pss_one (ps_for PassesOwn.never rfl (pi_range1 rfl G.range (pa_cons (pe_callB call_len_seq (by rfl) G.len PySem.boot_len (pa_cons (pv 0) pa_nil)) pa_nil)) (pg_name (i := 5) scLPairs.nd rfl (.inl rfl))
      (pss_one (ps_for PassesOwn.never rfl (pi_list (pe_call g1 hr rfl m1 k1 b1 .nil pass0 (pa_cons (pv 3) (pa_cons (pe_ix ix_tup (pe_ix ix_list (pv 0) (pv 5) (fun _ _ => rfl)) pe_int (fun _ _ => rfl)) pa_nil)))) (pg_name (i := 6) scLPairs.nd rfl (.inl rfl))
      (pss_cons (ps_set (i := 7) scLPairs.nd rfl (.inl rfl) (pe_tup (pa_cons (pe_call g2 hr rfl m2 k2 b2 .nil pass0 (pa_cons (pv 1) (pa_cons (pv 5) (pa_cons (pe_lc (own := [("_law_kid", 8)]) (g := gName 8) (tt := tYes) rfl scLPairs.nd (pi_tup (pv 6))
      (blkOk_by (N := nLPairs) (sc := defScope sLPairs) (by decide +kernel)) (fun _ _ _ _ _ => pg_name (i := 8) scLPairs.nd rfl (.inl rfl)) (fun _ _ _ _ _ => pts_nil)
      (fun _ _ _ _ _ => pe_ix (ix_tupK (K := K) rfl) (pv 8) pe_int (fun _ _ => rfl))) pa_nil)))) (pa_cons (pe_call g2 hr rfl m2 k2 b2 .nil pass0 (pa_cons (pv 2) (pa_cons (pv 5) (pa_cons (pe_lc (own := [("_law_kid", 8)]) (g := gName 8) (tt := tYes) rfl scLPairs.nd (pi_tup (pv 6))
      (blkOk_by (N := nLPairs) (sc := defScope sLPairs) (by decide +kernel)) (fun _ _ _ _ _ => pg_name (i := 8) scLPairs.nd rfl (.inl rfl)) (fun _ _ _ _ _ => pts_nil)
      (fun _ _ _ _ _ => pe_ix (ix_tupK (K := K) rfl) (pv 8) pe_int (fun _ _ => rfl))) pa_nil)))) pa_nil))))
      (pss_one (ps_if (pt_cmpR (op_notInD (Nat.lt_of_le_of_lt (Nat.le_refl _) hu65)) (pv 7) (pv 3) (by rfl)) (pss_cons (ps_expr (pe_bm PySem.F.plainAttrs_list PySem.F.slot_list_append PySem.F.type_list_append mt_append (pv 3) (pa_cons (pv 7) pa_nil)))
      (pss_one (ps_set (i := 4) scLPairs.nd rfl (.inl rfl) pe_bl))) pss_nil)))))))))
      (pss_one (ps_ret (pe_callB (cr_sortedD hu) (by rfl) GD.sorted (by decide +kernel) (pa_cons (pv 3) pa_nil)))))), ?_⟩
    refine ⟨by show 0 ≤ sizeLine; decide, fun F hF => ⟨_, _, rfl, ?_⟩⟩
    have e1 : Ex H (upd H F (.lst [])) := Ex.new hF
    have hF1 : (upd H F (.lst [])) F = some (.lst []) := upd_same
    generalize upd H F (.lst []) = H1 at e1 hF1
    refine q_while (fun m σ' H' => Ex H H' ∧ ∃ (L : List (Nat × Nat)) (refs : List V) (fresh : Bool) (u5 u6 u7 : Option V), σ' = [some v, some y, some y', some (.ref F), some (.bl fresh), u5, u6, u7, none] ∧ H' F = some (.lst refs) ∧ Dts K MT H' refs (L.map pD) ∧ PInv R R' L ∧
        (fresh = false → ∀ s, s < S.length → ∀ k ∈ chsG L (ks S s), ledP R R' s k ∈ L) ∧ m = (R.moods * R'.moods - L.length) * 2 + b2n fresh)
      ((R.moods * R'.moods - 0) * 2 + 1) ⟨e1, [], [], true, none, none, none, rfl, hF1, .nil, ⟨List.nodup_nil, fun p h => (nomatch h)⟩, (fun h => (nomatch h)), rfl⟩ ?_
    rintro m σ' H2 ⟨e2, L, refs, fresh, u5, u6, u7, rfl, hF2, dr2, inv, cl, rfl⟩
    refine ⟨fresh, evt_B (K := K) (M := MF) (evd_var (i := 4) rfl (.bl fresh)), fun hfr H3 e3 => ?_, fun hfr H3 e3 => ?_⟩
    · subst hfr
      have invle := inv.le
      refine ⟨fun σ' H' => Ex H H' ∧ ∃ (G : List (Nat × Nat)) (refs : List V) (fresh : Bool) (u5 u6 u7 : Option V), σ' = [some v, some y, some y', some (.ref F), some (.bl fresh), u5, u6, u7, none] ∧ H' F = some (.lst refs) ∧ Dts K MT H' refs (G.map pD) ∧ PInv R R' G ∧
          ((fresh = false ∧ G = L ∧ ∀ s, s < S.length → ∀ k ∈ chsG L (ks S s), ledP R R' s k ∈ L) ∨ (fresh = true ∧ L.length < G.length)),
        fun σ2 H4 ⟨e4, G, refs, fresh, u5, u6, u7, h1, h2, h2', h3, h4⟩ => ?_, ?_⟩
      · have gle := h3.le
        rcases h4 with ⟨rfl, rfl, h5⟩ | ⟨rfl, h5⟩
        · exact ⟨_, by show (R.moods * R'.moods - G.length) * 2 + 0 < (R.moods * R'.moods - G.length) * 2 + 1; omega, e4, G, refs, false, u5, u6, u7, h1, h2, h2', h3, fun _ => h5, rfl⟩
        · exact ⟨_, by show (R.moods * R'.moods - G.length) * 2 + 1 < (R.moods * R'.moods - L.length) * 2 + 1; omega, e4, G, refs, true, u5, u6, u7, h1, h2, h2', h3, (fun h => (nomatch h)), rfl⟩
      have e23 := e2.trans e3
      refine q_asg ev_c fun H4 e4 => ?_
      have e24 := e23.trans e4
      refine s_forR1 (n := (S.length : Int)) (evA_I (K := K) (M := MF) ((evd_lenL (es := S.map sgD) (eva_cons (evd_var (i := 0) rfl (hv.ex e24)) eva_nil)).mono fun d h => by rw [h, List.length_map])) (by omega)
        (fun i σ' H' => Ex H H' ∧ ∃ (G : List (Nat × Nat)) (refs : List V) (fresh : Bool) (u5 u6 u7 : Option V), σ' = [some v, some y, some y', some (.ref F), some (.bl fresh), u5, u6, u7, none] ∧ H' F = some (.lst refs) ∧ Dts K MT H' refs (G.map pD) ∧ PInv R R' G ∧
          ((fresh = false ∧ G = L ∧ ∀ s, s < i → ∀ k ∈ chsG L (ks S s), ledP R R' s k ∈ L) ∨ (fresh = true ∧ L.length < G.length)))
        (fun H5 e5 => ⟨e24.trans e5, L, refs, false, u5, u6, u7, rfl, (e3.trans (e4.trans e5)) _ _ hF2, dr2.ex (e3.trans (e4.trans e5)), inv, .inl ⟨rfl, rfl, fun s h => absurd h (Nat.not_lt_zero _)⟩⟩) ?_ ?_
      · rintro i σ' H5 hi ⟨e5, G, refs5, fresh, u5, u6, u7, rfl, hF5, dr5, ginv, prog⟩
        have hiS : i < S.length := by omega
        have hk2 := ks_le hK i
        have gle := ginv.le
        refine ⟨_, rfl, (evd_ks (K := K) (M := MF) (i := 0) (hv.ex e5) hK hiS rfl (evd_var (i := 5) rfl (.int (i : Int)))) H5 (Ex.refl _) _ fun vk dk H6 e6 dvk pk => ?_⟩
        subst pk
        cases dvk
        refine ⟨.ref F, G.map pD, ks S i, rfl, .lst (e6 _ _ hF5) (fun z => z) ((dr5.ex e6).weak fun _ _ => trivial), flD_pD K G, hk2, by rw [List.length_map]; omega, fun l crefs H7 hl e7 hl7 dc => ?_⟩
        rw [chsG_map, List.map_map] at dc
        have hF6 := e6 _ _ hF5
        have hlF : F ≠ l := ne_of_none hF6 hl
        have e57 := e6.trans e7
        have hrl : crefs.length = (chsG G (ks S i)).length := by rw [dc.length, List.length_map]
        refine ⟨l, rfl, ⟨_, sq_of hl7⟩, for_list (K := K) (a := l) (xs := crefs) (fun j σ' H' => Ex H H' ∧ H' l = some (.lst crefs) ∧ Dts K MT H' crefs ((chsG G (ks S i)).map (PyData.tuple ∘ List.map pD)) ∧ ∃ (G' : List (Nat × Nat)) (refs' : List V) (fresh : Bool) (u6 u7 : Option V), σ' = [some v, some y, some y', some (.ref F), some (.bl fresh), some (.int (i : Int)), u6, u7, none] ∧ H' F = some (.lst refs') ∧ Dts K MT H' refs' (G'.map pD) ∧ PInv R R' G' ∧ (∀ p ∈ G, p ∈ G') ∧
            ((fresh = false ∧ G' = L ∧ G = L ∧ (∀ s, s < i → ∀ k ∈ chsG L (ks S s), ledP R R' s k ∈ L) ∧ ∀ k ∈ (chsG L (ks S i)).take j, ledP R R' i k ∈ L) ∨ (fresh = true ∧ L.length < G'.length)))
          ⟨e5.trans e57, hl7, dc, G, refs5, fresh, u6, u7, rfl, e57 _ _ hF5, dr5.ex e57, ginv, fun p h => h, ?_⟩ (fun j σ' H' _ h => sq_of h.2.1) ?_ ?_⟩
        · rcases prog with ⟨h1, h2, h3⟩ | h
          · exact .inl ⟨h1, h2, h2, h3, fun k h => (by rw [List.take_zero] at h; exact (nomatch h))⟩
          · exact .inr h
        · rintro j x σ' H8 hx ⟨e8, hl8, dc8, G', refs8, fresh, u6, u7, rfl, hF8, dr8, inv8, sub8, prog8⟩
          obtain ⟨d, hdd, dx⟩ := dc8.get hx
          rw [List.getElem?_map] at hdd
          cases hkj : (chsG G (ks S i))[j]? with
          | none =>
            rw [hkj] at hdd
            cases hdd
          | some k =>
          rw [hkj] at hdd
          cases hdd
          obtain ⟨kl, km⟩ := chsG_row (List.mem_of_getElem? hkj)
          have kb : ∀ x ∈ k, x.1 < R.moods ∧ x.2 < R'.moods := fun x hx => ginv.lt x (km x hx)
          have dx8 : Dt K MF H8 x (.tuple (k.map pD)) := dt_tupF (flD_pD K k) dx
          have le8 := inv8.le
          refine q_asgP (K := K) (M := MF) (P := (· = pD (ledP R R' i k))) ((evd_tup (eva_cons (evd_ledL (s := i) (k := k.map (·.1)) (evd_var (i := 1) rfl (hy.ex e8)) (evd_var (i := 5) rfl (.int _)) (evn_part (f := (·.1)) (i := 6) (j := 8) rfl dx8 (by rw [kl]; omega) (fun M' b y H' dy => evd_ixT (j := 0) (ds := [.int (b.1 : Int), .int (b.2 : Int)]) (evd_var (i := 8) rfl dy) evd_int rfl rfl) fun y => rfl) gR hK hiS (by rw [List.length_map, kl]) fun w hw => ?_) (eva_cons (evd_ledL (s := i) (k := k.map (·.2)) (evd_var (i := 2) rfl (hy'.ex e8)) (evd_var (i := 5) rfl (.int _)) (evn_part (f := (·.2)) (i := 6) (j := 8) rfl dx8 (by rw [kl]; omega) (fun M' b y H' dy => evd_ixT (j := 1) (ds := [.int (b.1 : Int), .int (b.2 : Int)]) (evd_var (i := 8) rfl dy) evd_int rfl rfl) fun y => rfl) gR' hK hiS (by rw [List.length_map, kl]) fun w hw => ?_) eva_nil)) (by show 2 ≤ sizeLine; decide)).mono fun d h => by rw [h]; rfl) fun v9 d9 H9 e9 dv9 p9 => ?_
          · obtain ⟨r, hr, rfl⟩ := List.mem_map.mp hw
            exact (kb r hr).1
          · obtain ⟨r, hr, rfl⟩ := List.mem_map.mp hw
            exact (kb r hr).2
          subst p9
          have hF9 := e9 _ _ hF8
          refine s_when (evt_test (K := K) (M := MF) (evd_notInP (L := G') (evd_var (i := 7) rfl dv9) (evd_var (i := 3) rfl (.lst hF9 (fun z => z) ((dr8.ex e9).weak fun _ _ => trivial))))) (fun hb Ha ea => ?_) (fun hb Ha ea => ?_)
          · have hn : ledP R R' i k ∉ G' := fun h => by
              rw [decide_eq_true h] at hb
              cases hb
            have hFa := ea _ _ hF9
            refine q_appP (K := K) (M := MF) (i := 3) (P := (· = pD (ledP R R' i k))) hFa rfl (evd_var (i := 7) rfl (dv9.ex ea)) (by rw [dr8.length, List.length_map]; exact Nat.lt_of_le_of_lt (show G'.length ≤ 40 by omega) (by decide)) fun va da Hb eb dva pa => ?_
            subst pa
            have hFb := eb _ _ hFa
            have e8b := (e9.trans ea).trans eb
            refine s_asg ev_c fun Hc ec => ⟨(Ex.mut (e8.trans e8b) hF).trans ec, ec _ _ (by rw [upd_ne hlF.symm]; exact e8b _ _ hl8), ((dc8.ex e8b).upd hFb trivial).ex ec, G' ++ [ledP R R' i k], refs8 ++ [va], true, _, _, rfl, ec _ _ upd_same, ?_, ⟨?_, fun p hp => ?_⟩, fun p hp => List.mem_append_left _ (sub8 p hp), .inr ⟨rfl, ?_⟩⟩
            · rw [List.map_append]
              exact ((((dr8.ex e8b).append (.one (dt_pD dva))).upd hFb trivial).ex ec)
            · refine List.nodup_append.mpr ⟨inv8.nd, by simp, fun a ha b hb e => ?_⟩
              rw [List.mem_singleton.mp hb] at e
              rw [e] at ha
              exact hn ha
            · rcases List.mem_append.mp hp with h | h
              · exact inv8.lt p h
              · rw [List.mem_singleton.mp h]
                obtain ⟨_, _, _, z1⟩ := gR.toWf.led (s := i) (k := k.map (·.1)) hiS (by rw [List.length_map, kl]) fun w hw => by
                  obtain ⟨r, hr, rfl⟩ := List.mem_map.mp hw
                  exact (kb r hr).1
                obtain ⟨_, _, _, z2⟩ := gR'.toWf.led (s := i) (k := k.map (·.2)) hiS (by rw [List.length_map, kl]) fun w hw => by
                  obtain ⟨r, hr, rfl⟩ := List.mem_map.mp hw
                  exact (kb r hr).2
                exact ⟨z1, z2⟩
            · rw [List.length_append, List.length_singleton]
              rcases prog8 with ⟨_, h2, _⟩ | ⟨_, h⟩
              · rw [h2]
                omega
              · omega
          · have hin : ledP R R' i k ∈ G' := Classical.byContradiction fun h => by
              rw [decide_eq_false h] at hb
              cases hb
            have e8a := e9.trans ea
            refine ⟨e8.trans e8a, e8a _ _ hl8, dc8.ex e8a, G', refs8, fresh, _, _, rfl, e8a _ _ hF8, dr8.ex e8a, inv8, sub8, ?_⟩
            rcases prog8 with ⟨h1, h2, h3, h4, h5⟩ | h
            · subst h2
              refine .inl ⟨h1, rfl, h3, h4, fun k' hk' => ?_⟩
              rw [← h3, List.take_add_one, hkj] at hk'
              rcases List.mem_append.mp hk' with hk' | hk'
              · exact h5 k' (by rw [← h3]; exact hk')
              · rw [List.mem_singleton.mp hk']
                exact hin
            · exact .inr h
        · rintro σ' H8 ⟨e8, hl8, dc8, G', refs8, fresh, u6, u7, rfl, hF8, dr8, inv8, sub8, prog8⟩
          refine ⟨e8, G', refs8, fresh, _, u6, u7, rfl, hF8, dr8, inv8, ?_⟩
          rcases prog8 with ⟨h1, h2, h3, h4, h5⟩ | h
          · refine .inl ⟨h1, h2, fun s hs k hk => ?_⟩
            by_cases hsi : s = i
            · subst hsi
              refine h5 k ?_
              rw [hrl, h3, List.take_length]
              exact hk
            · exact h4 s (by omega) k hk
          · exact .inr h
      · rintro σ' H5 ⟨e5, G, refs5, fresh, u5, u6, u7, rfl, hF5, dr5, ginv, prog⟩
        rw [Int.toNat_natCast] at prog
        exact ⟨e5, G, refs5, fresh, u5, u6, u7, rfl, hF5, dr5, ginv, prog⟩
    · subst hfr
      refine evn_sortPD (K := K) (M := MF) (L := L) (evd_var (i := 3) rfl (.lst (e3 _ _ hF2) (fun z => z) ((dr2.ex e3).weak fun _ _ => trivial))) H3 (Ex.refl _) _ fun l xs ds H4 hl e4 hl4 dxs pds => ?_
      obtain ⟨L', rfl, hp⟩ := pds
      refine q l xs L' H4 (fresh_back (e2.trans e3) hl) ((e2.trans e3).trans e4) hl4 (dts_FlD (flD_pD K L') dxs) ⟨hp.nodup_iff.mpr inv.nd, fun p hpm => inv.lt p (hp.mem_iff.mp hpm)⟩ ?_
      obtain ⟨s, hs, h0⟩ := hleaf
      have := cl rfl s hs [] (by rw [h0]; exact List.mem_singleton.mpr rfl)
      rw [hp.length_eq]
      exact List.length_pos_of_mem this
end
end TH
set_option maxRecDepth 100000
set_option maxHeartbeats 4000000
namespace TH
open PySem L2 Evl
/-! ### heaps in which some lists have changed -/
section
variable {K : PySem.W.Frag} {M M' : Addr → Prop} {H H1 H' : Hp} {C CB CR p : Addr} {S : List Sg} {R : Pl}
theorem ReadAt.ch (h : ReadAt K CB CR M H p S R) (c : ChM M H H') : ReadAt K CB CR M H' p S R := by
  obtain ⟨dx, pb, lt, ll, h1, h2, h3, h4⟩ := h
  exact ⟨dx, pb, lt, ll, c.at h1 (fun _ z => by cases z), h2.ch c, h3.ch c, h4.ch c⟩
theorem ReadAt.avoid (h : ReadAt K CB CR M H p S R) (n : ∀ a, M' a → M a ∨ H a = none) : ReadAt K CB CR M' H p S R := by
  obtain ⟨dx, pb, lt, ll, h1, h2, h3, h4⟩ := h
  exact ⟨dx, pb, lt, ll, h1, h2.avoid n, h3.avoid n, h4.avoid n⟩
end
/-! ### a good reader is made -/
theorem tabs_enc (ts : List (List Nat)) : (ts.map ofN).map listI = ts.map intsD := by
  rw [List.map_map]
  rfl
theorem lik_rise (m : Nat) : ∀ (r : List Nat) (b : Int), (∀ x ∈ r, b < (x : Int)) → r.Pairwise (· < ·) → (∀ x ∈ r, x < m) → likB (m : Int) b (ofN r) = true
  | [], _, _, _, _ => rfl
  | x :: r, b, h0, h1, h2 => by
    show ((decide (b < (x : Int)) && decide ((x : Int) < (m : Int))) && likB (m : Int) (x : Int) (ofN r)) = true
    obtain ⟨h3, h4⟩ := List.pairwise_cons.mp h1
    rw [decide_eq_true (h0 x List.mem_cons_self), decide_eq_true (show (x : Int) < (m : Int) by have := h2 x List.mem_cons_self; omega), lik_rise m r (x : Int) (fun y hy => by have := h3 y hy; omega) h4 fun y hy => h2 y (List.mem_cons_of_mem _ hy)]
    rfl
theorem rok_wf {S : List Sg} {R : Pl} (g : Wf S R) (h6 : R.moods ≤ 6) : rokB S (R.moods : Int) (R.tables.map ofN) (ofN R.liked) = true := by
  have h1 := g.m1
  unfold rokB
  rw [decide_eq_true (show (1 : Int) ≤ (R.moods : Int) by omega), decide_eq_true (show (R.moods : Int) ≤ 6 by omega), Int.toNat_natCast, lik_rise R.moods R.liked (-1) (fun x _ => by omega) g.lik g.likm]
  have ht : tabsB S R.moods (R.tables.map ofN) = true := by
    unfold tabsB
    rw [List.length_map, g.len, decide_eq_true rfl, Bool.true_and, List.all_eq_true]
    rintro ⟨tb, i⟩ hp
    have hi := List.mem_zipIdx_iff_getElem?.mp hp
    have hi : (R.tables.map ofN)[i]? = some tb := hi
    rw [List.getElem?_map] at hi
    cases ht : R.tables[i]? with
    | none =>
      rw [ht] at hi
      cases hi
    | some t =>
    rw [ht] at hi
    cases hi
    obtain ⟨h1, h2⟩ := g.tab i t ht
    show tabB R.moods (ks S i) (ofN t) = true
    unfold tabB
    rw [ofN_len, h1, decide_eq_true rfl, Bool.true_and, List.all_eq_true]
    intro x hx
    unfold ofN at hx
    obtain ⟨y, hy, rfl⟩ := List.mem_map.mp hx
    have := h2 y hy
    rw [decide_eq_true (by omega), decide_eq_true (by omega)]
    rfl
  rw [ht]
  rfl
section
variable {K : PySem.W.Frag} {M M' Mb : Addr → Prop} {H H1 H' : Hp} {σ : L2.St} {tb tm tt tl te ts tx : TE} {ta : TA} {E : XK} {C CB CR CN pb b : Addr} {S : List Sg} {m : Int} {tabs : List (List Int)} {ls : List Int} {Q : VK}
theorem make_read {R : Pl} (ok : Ok M H) (hb : Ev tb σ H (.ref pb)) (hB : BookAt CB Mb H pb S) (hK : KidsOk S) (hm : EvD K M tm σ H (.int (R.moods : Int))) (ht : EvD K M tt σ H (.list (R.tables.map intsD))) (hl : EvD K M tl σ H (intsD R.liked)) (g : Wf S R) (h6 : R.moods ≤ 6) (l1 : S.length ≤ 100)
    (q : ∀ x H1 H', Ex H H1 → Ex H1 H' → H1 x = none → (∀ M', Ok M' H1 → BookAt CB M' H1 pb S → ReadAt K CB CR M' H' x S R) → Q (.ref x) H') : tMake CR (spRInit K CB CR CN) [] E (tCons tb (tCons tm (tCons tt (tCons tl tNil)))) σ H Q := by
  refine hb H (Ex.refl H) _ fun Ha ea => hm Ha ea _ fun vm dm Hb eb dvm pm => ht Hb (ea.trans eb) _ fun vt dt Hc ec dvt pt => hl Hc ((ea.trans eb).trans ec) _ fun vl dl Hd ed dvl pl x dx hx hdx hne => ?_
  subst pm pt pl
  cases dvm
  have e1 : Ex H Hd := (((ea.trans eb).trans ec).trans ed)
  have e2 : Ex Hd (upd (upd Hd dx (.own x)) x (.ins CR dx [])) := made_ex hx hdx hne
  have e12 := e1.trans e2
  have hA : Args K M (upd (upd Hd dx (.own x)) x (.ins CR dx [])) vt vl (R.tables.map ofN) (ofN R.liked) := by
    refine ⟨by rw [tabs_enc]; exact dvt.ex (ed.trans e2), dvl.ex e2, by rw [List.length_map, g.len]; omega, fun tb htb => ?_⟩
    obtain ⟨t, ht, rfl⟩ := List.mem_map.mp htb
    obtain ⟨i, hi⟩ := List.mem_iff_getElem?.mp ht
    obtain ⟨h1, _⟩ := g.tab i t hi
    rw [ofN_len, h1]
    exact Nat.le_trans (mpow h6 (ks_le hK i)) (by decide)
  refine ⟨M, Mb, x, pb, dx, vt, vl, S, (R.moods : Int), R.tables.map ofN, ofN R.liked, rfl, upd_same, hK, ok.ex e12, hB.ex e12, hA, fun _ H' hk => ⟨rfl, ?_⟩, fun hf => by rw [rok_wf g h6] at hf; cases hf⟩
  obtain ⟨dx', lt, ll, k1, k2, k3, k4⟩ := hk
  have e3 : Ex Hd H' := fun b o hb => k4 b o (e2 b o hb) (ne_of_none hb hx)
  refine q x Hd H' e1 e3 hx fun M' ok' hB' => ⟨dx', pb, lt, ll, k1, hB'.ex e3, ?_, ?_⟩
  · have := (k2.from fun b o h => ⟨o, e2 b o h⟩) M' ok'
    rw [tabs_enc] at this
    exact this
  · exact (k3.from fun b o h => ⟨o, e2 b o h⟩) M' ok'
/-- draws -/
theorem evp_lreader {most : Nat} (ok : Ok M H) (hb : Ev tb σ H (.ref b)) (hbox : H b = some (Box b)) (hs : EvD K MF ts σ H (.list (S.map sgD))) (hm : EvD K MF tm σ H (.int (most : Int))) (hK : KidsOk S) (hS : S.length ≤ 100) (h1 : 1 ≤ most) (h6 : most ≤ 6) :
    EvP K M (tCall (spLReader K) [] E (tCons tb (tCons ts (tCons tm tNil)))) σ H (fun d => ∃ R, d = plD R ∧ GoodR S R ∧ R.moods ≤ most) := fun H1 e Q q =>
  hb H1 e _ fun H2 e2 => hs H2 (e.trans e2) _ fun v d H3 e3 dv pd => hm H3 ((e.trans e2).trans e3) _ fun vm dm H4 e4 dvm pm => by
    subst pd pm
    cases dvm
    have e04 := ((e.trans e2).trans e3).trans e4
    exact ⟨b, v, S, most, rfl, e04 _ _ hbox, dv.ex e4, hK, hS, h1, h6, fun x R H5 e5 gR hR nd => q x _ H5 (((e2.trans e3).trans e4).trans e5) (nd M (ok.ex e04)) ⟨R, rfl, gR, hR⟩⟩
theorem flat_pl (R : Pl) : Flat 3 (plD R) := flat_tup fun d hd => by
  rcases List.mem_cons.mp hd with rfl | hd
  · exact ⟨rfl, Nat.zero_le _⟩
  · rcases List.mem_cons.mp hd with rfl | hd
    · exact flat_list fun d hd => by
        obtain ⟨t, _, rfl⟩ := List.mem_map.mp hd
        exact flat_intsD t
    · rw [List.mem_singleton.mp hd]
      exact ⟨(flat_intsD R.liked).lay, Nat.le_trans (flat_intsD R.liked).depth (by decide)⟩
end
end TH
set_option maxRecDepth 100000
set_option maxHeartbeats 4000000
namespace TH
open PySem L2 Evl
abbrev sLMade : Stmt := top 44
def spLMade (K : PySem.W.Frag) (CB CR : Addr) : Sp := fun vs H Q _ => ∃ (Mb : Addr → Prop) (pb : Addr) (y : V) (S : List Sg) (R : Pl), vs = [.ref pb, y] ∧ BookAt CB Mb H pb S ∧ Dt K MF H y (plD R) ∧ GoodR S R ∧ R.moods ≤ 6 ∧ KidsOk S ∧ S.length ≤ 100 ∧ BookAt CB MF H pb S ∧
  ∀ x H', Ex H H' → ReadAt K CB CR MF H' x S R → Q (.ref x) H'
section
variable {P : Program} {w : World} {K : PySem.W.Frag} {mg : Str → Option Value} {base : Heap} {CB CR CD : Addr}
abbrev nLMade : List Str := ["_law_book", "_law_plain", "_law_table"]
theorem scLMade : FnScope nLMade ["_law_book", "_law_plain"] (defScope sLMade) := ⟨rfl, rfl, rfl, by decide +kernel, rfl, by decide +kernel, by decide +kernel⟩
theorem ok_lmade {f : Addr} {fd : FuncData} (F : Fun K "_law_made" "_law_made" sLMade f fd) (GY : GlobY mg) (TR : ReadT K mg CR)
    {fJ : Addr} {fdJ : FuncData} (mkR : Mk K CR fJ) (GJ : FnOk P w K mg base (L2.CX P w) 4 fJ fdJ ["self", "book", "moods", "tables", "liked"] (spRInit K CB CR CD)) (bJ : Binds K fdJ ["self", "book", "moods", "tables", "liked"] []) :
    FnOk P w K mg base CX0 6 f fd ["_law_book", "_law_plain"] (spLMade K CB CR) := by
  refine F.ok scLMade (fun vs H Q E h => ?_) (fun cdv A outer s0 H vs Q E hr h => ?_)
  · obtain ⟨Mb, pb, y, S, R, rfl, _⟩ := h
    rfl
  · obtain ⟨Mb, pb, y, S, R, rfl, hB, hy, gR, h6, hK, hS, hB', q⟩ := h
    refine ⟨_, (pss_one (ps_ret (pe_make mkR GJ hr rfl TR.g bJ .nil passL (pa_cons (pv 0) (pa_cons (pe_ix ix_tup (pv 1) pe_int (fun _ _ => rfl)) (pa_cons (pe_lc (own := [("_law_table", 2)]) (g := gName 2) (tt := tYes) rfl scLMade.nd (pi_list (pe_ix ix_tup (pv 1) pe_int (fun _ _ => rfl)))
      (blkOk_by (N := nLMade) (sc := defScope sLMade) (by decide +kernel)) (fun _ _ _ _ _ => pg_name (i := 2) scLMade.nd rfl (.inl rfl)) (fun _ _ _ _ _ => pts_nil)
      (fun _ _ _ _ _ => pe_callTy (call_list_ofK (K := K) rfl) (by rfl) GY.list (by decide +kernel) (pa_cons (pv 2) pa_nil))) (pa_cons (pe_callTy call_list_of (by rfl) GY.list (by decide +kernel) (pa_cons (pe_ix ix_tup (pv 1) pe_int (fun _ _ => rfl)) pa_nil)) pa_nil))))))), ?_⟩
    have hkl : R.tables.length < sizeLine := by rw [gR.len]; exact Nat.lt_of_le_of_lt hS (by decide)
    refine make_read (M := MF) (Mb := MF) (pb := pb) (R := R) okF (ev_var (i := 0) rfl) hB' hK (evd_ixT (j := 0) (ds := [.int (R.moods : Int), .list (R.tables.map intsD), intsD R.liked]) (evd_var (i := 1) (d := plD R) rfl hy) evd_int rfl rfl)
      (((evn_lcMN (K := K) (M := MF) (N := MF) (bs := R.tables) intsD intsD okF (evd_ixT (j := 1) (ds := [.int (R.moods : Int), .list (R.tables.map intsD), intsD R.liked]) (evd_var (i := 1) (d := plD R) rfl hy) evd_int rfl rfl) hkl (fun N' tb x H' hm ok' hb e dx Qg qg => by
        refine qg _ H' (Ex.refl _) ⟨rfl, evt_yes, fun _ => ?_⟩
        exact evd_listNew (M := MF) (ns := ofN tb) ok' (eva_cons (evd_var (i := 2) rfl dx) eva_nil))).data okF).mono fun d hd => by
        obtain ⟨ds, rfl, rfl⟩ := hd
        rfl)
      (evd_listNew (M := MF) (ns := ofN R.liked) okF (eva_cons (evd_ixT (j := 2) (ds := [.int (R.moods : Int), .list (R.tables.map intsD), intsD R.liked]) (evd_var (i := 1) (d := plD R) rfl hy) evd_int rfl rfl) eva_nil)) gR.toWf h6 hS fun x H1 H2 e1 e2 hx hmk => ?_
    exact q x H2 (e1.trans e2) (hmk MF okF (hB'.ex e1))
end
end TH
set_option maxRecDepth 100000
set_option maxHeartbeats 4000000
namespace TH
open PySem L2 Evl
abbrev sBlown : Stmt := top 47
def spBlown (K : PySem.W.Frag) : Sp := fun vs H Q _ => ∃ (b : Addr) (v y : V) (S : List Sg) (R : Pl), vs = [.ref b, v, y] ∧ H b = some (Box b) ∧ Dt K MF H v (.list (S.map sgD)) ∧ Dt K MF H y (plD R) ∧ GoodR S R ∧ KidsOk S ∧ S.length ≤ 100 ∧ R.moods ≤ 4 ∧
  ∀ x R' H', Ex H H' → GoodR S R' → R'.moods ≤ 6 → Dt K MF H' x (plD R') → Q x H'
section
variable {K : PySem.W.Frag} {M M' N : Addr → Prop} {H H1 H' : Hp} {σ : L2.St} {ta tb te tl : TE} {E : XK} {b : Addr}
theorem evp_takeB {n : Nat} (hb : Ev tb σ H (.ref b)) (hx : H b = some (Box b)) (hn : EvD K M te σ H (.int (n : Int))) (n0 : 0 < n) (n1 : n ≤ 1000) :
    EvP K M (tCall spTake [] E (tCons tb (tCons te tNil))) σ H (fun d => ∃ k : Nat, d = .int (k : Int) ∧ k < n) :=
  (evp_take hb hx hn (by omega) (Nat.lt_of_le_of_lt (show ((n : Nat) : Int).natAbs ≤ 1000 by omega) (by decide))).mono fun d ⟨k, h, k0, k1⟩ => ⟨k.toNat, by rw [h, Int.toNat_of_nonneg k0], by omega⟩
theorem evp_catL {PA PB : PyData → Prop} (ok : Ok M H) (ha : EvP K M ta σ H PA) (hb : EvP K M tb σ H PB) (hi : ∀ d, PA d → ∃ ds, d = .list ds ∧ ds.length ≤ 1000) (hj : ∀ d, PB d → ∃ ds, d = .list ds ∧ ds.length ≤ 1000) :
    EvP K M (tOp rCat ta tb) σ H (fun d => ∃ ds es, d = .list (ds ++ es) ∧ PA (.list ds) ∧ PB (.list es)) :=
  evp_op ha hb fun x y a b H1 e dx dy px py Q q => by
    obtain ⟨ds, rfl, hd⟩ := hi a px
    obtain ⟨es, rfl, he⟩ := hj b py
    cases dx with
    | lst h1 h2 h3 =>
    cases dy with
    | lst k1 k2 k3 =>
    refine ⟨_, _, _, _, rfl, rfl, h1, k1, ?_, fun p hp => q _ _ _ (Ex.new hp) (.lst upd_same ((ok.ex e).new hp) ((h3.append k3).ex (Ex.new hp))) ⟨ds, es, rfl, px, py⟩⟩
    rw [h3.length, k3.length]
    exact Nat.le_trans (show _ ≤ 2000 by omega) (by decide)
theorem rgV_nums (n : Nat) : rgV 0 (n : Int) = nums (List.range n) := by
  unfold rgV nums
  rw [Int.sub_zero, Int.toNat_natCast]
  refine List.map_congr_left fun i _ => ?_
  rw [Int.zero_add]
theorem evd_lrange {n : Nat} (ok : Ok M H) (h : EvD K M te σ H (.int (n : Int))) (hn : n ≤ 100000) : EvD K M (tLstRg (tRg1 te)) σ H (intsD (List.range n)) := fun H1 e Q q =>
  h H1 e _ fun v d H2 e2 dv pd => by
    subst pd
    cases dv
    refine ⟨(n : Int), rfl, RgOk.of_le (by omega) (by omega) (by omega) (by omega), fun p hp => q _ _ _ (e2.trans (Ex.new hp)) (.lst upd_same ((ok.ex (e.trans e2)).new hp) ?_) rfl⟩
    have : rgV 0 (n : Int) = nums (List.range n) := by
      unfold rgV nums
      rw [Int.sub_zero, Int.toNat_natCast]
      refine List.map_congr_left fun i _ => ?_
      rw [Int.zero_add]
    rw [this]
    exact nums_dts _
end
theorem q_asgEm {i : Nat} {tz : TS} {D : Ends} {σ : L2.St} {H : Hp} (k : ∀ l, H l = none → tz D (σ.set i (some (.ref l))) (upd H l (.lst []))) : tSeq (tAsg (tLst tNil) (gName i)) tz D σ H := ⟨by decide, k⟩
theorem row_enc (c n : Nat) : (chsG ((ofN (List.range c)).map PyData.int) n).map PyData.tuple = (chsG (List.range c) n).map fun k => tupI (ofN k) := by
  have : (ofN (List.range c)).map PyData.int = (List.range c).map fun (x : Nat) => PyData.int (x : Int) := by
    unfold ofN
    rw [List.map_map]
    rfl
  rw [this, chsG_map, List.map_map]
  apply List.map_congr_left
  intro k _
  show PyData.tuple (k.map fun (x : Nat) => PyData.int (x : Int)) = tupI (ofN k)
  unfold tupI ofN
  rw [List.map_map]
  rfl
section
variable {P : Program} {w : World} {K : PySem.W.Frag} {mg : Str → Option Value} {base : Heap}
abbrev nBlown : List Str := ["_law_box_here", "_law_signs_here", "_law_plain", "_law_count", "_law_owner", "_law_turn", "_law_tables", "_law_sign", "_law_name", "_law_kids", "_law_table", "_law_row", "_law_one", "_law_mood", "_law_some"]
theorem scBlown : FnScope nBlown ["_law_box_here", "_law_signs_here", "_law_plain"] (defScope sBlown) := ⟨rfl, rfl, rfl, by decide +kernel, rfl, by decide +kernel, by decide +kernel⟩
theorem ok_blown {f : Addr} {fd : FuncData} (F : Fun K "_law_blown" "_law_blown" sBlown f fd) (G : GlobS mg) (GY : GlobY mg) (GT : OneF P w K mg base "_law_take" 2 ["_law_box_here", "_law_count"] spTake) (B1 : OneF P w K mg base "_law_choices" 1 ["_law_things", "_law_count"] (spLChG K)) (B2 : OneF P w K mg base "_law_led" 1 ["_law_plain", "_law_sign", "_law_kids"] (spLLedL K)) :
    FnOk P w K mg base CX0 3 f fd ["_law_box_here", "_law_signs_here", "_law_plain"] (spBlown K) := by
  obtain ⟨fT, dT, mT, kT, gT, bT⟩ := GT
  obtain ⟨f1, d1, m1, k1, g1, b1⟩ := B1
  obtain ⟨f2, d2, m2, k2, g2, b2⟩ := B2
  refine F.ok scBlown (fun vs H Q E h => ?_) (fun cdv A outer s0 H vs Q E hr h => ?_)
  · obtain ⟨b, v, y, S, R, rfl, _⟩ := h
    rfl
  · obtain ⟨b, v, y, S, R, rfl, hb, hv, hy, gR, hK, hS, h4, q⟩ := h
    have hr1 : Room 1 _ := hr.mono (show 1 ≤ 2 by decide)
    have m1' := gR.m1
    refine ⟨_, (pss_cons (ps_set (i := 3) scBlown.nd rfl (.inl rfl) (pe_op op_add (pe_ix ix_tup (pv 2) pe_int (fun _ _ => rfl)) (pe_call gT hr rfl mT kT bT .nil pass0 (pa_cons (pv 0) (pa_cons (pe_op op_sub pe_int (pe_ix ix_tup (pv 2) pe_int (fun _ _ => rfl))) pa_nil)))))
      (pss_cons (ps_set (i := 4) scBlown.nd rfl (.inr rfl) (pe_op op_cat (pe_listRg rfl (by rfl) GY.list (prg_1 (by rfl) G.range (pe_ix ix_tup (pv 2) pe_int (fun _ _ => rfl)))) (pe_lc (own := [("_law_turn", 5)]) (g := gName 5) (tt := tYes) rfl scBlown.nd (pi_range1 rfl G.range (pa_cons (pe_op op_sub (pv 3) (pe_ix ix_tup (pv 2) pe_int (fun _ _ => rfl))) pa_nil))
      (blkOk_by (N := nBlown) (sc := defScope sBlown) (by decide +kernel)) (fun _ _ _ _ _ => pg_name (i := 5) scBlown.nd rfl (.inl rfl)) (fun _ _ _ _ _ => pts_nil)
      (fun _ _ _ _ _ => pe_call gT hr rfl mT kT bT .nil pass0 (pa_cons (pv 0) (pa_cons (pe_ix (ix_tupK (K := K) rfl) (pv 2) pe_int (fun _ _ => rfl)) pa_nil))))))
      (pss_cons (ps_set (i := 6) scBlown.nd rfl (.inl rfl) (pe_lst pa_nil))
      (pss_cons (ps_for PassesOwn.never rfl (pi_enum (by rfl) G.enumerate (pa_cons (pv 1) pa_nil)) (pg_tup rfl (pgs_cons (pg_name (i := 7) scBlown.nd rfl (.inl rfl)) (pgs_cons (pg_tup rfl (pgs_cons (pg_name (i := 8) scBlown.nd rfl (.inl rfl)) (pgs_cons (pg_name (i := 9) scBlown.nd rfl (.inl rfl)) pgs_nil))) pgs_nil)))
      (pss_cons (ps_set (i := 10) scBlown.nd rfl (.inl rfl) (pe_lst pa_nil))
      (pss_cons (ps_for PassesOwn.never rfl (pi_list (pe_call g1 hr1 rfl m1 k1 b1 .nil pass0 (pa_cons (pe_listRg rfl (by rfl) GY.list (prg_1 (by rfl) G.range (pv 3))) (pa_cons (pv 9) pa_nil)))) (pg_name (i := 11) scBlown.nd rfl (.inl rfl))
      (pss_cons (ps_set (i := 13) scBlown.nd rfl (.inr rfl) (pe_call g2 hr1 rfl m2 k2 b2 .nil pass0 (pa_cons (pv 2) (pa_cons (pv 7) (pa_cons (pe_lc (own := [("_law_one", 12)]) (g := gName 12) (tt := tYes) rfl scBlown.nd (pi_tup (pv 11))
      (blkOk_by (N := nBlown) (sc := defScope sBlown) (by decide +kernel)) (fun _ _ _ _ _ => pg_name (i := 12) scBlown.nd rfl (.inl rfl)) (fun _ _ _ _ _ => pts_nil)
      (fun _ _ _ _ _ => pe_ix (ix_listK (K := K) rfl) (pv 4) (pv 12) (fun _ _ => rfl))) pa_nil)))))
      (pss_cons (ps_setLc (i := 14) (own := [("_law_one", 12)]) (g := gName 12) (by rfl) scBlown.nd rfl rfl (sw_true rfl rfl rfl (by decide +kernel)) (pi_range1 rfl G.range (pa_cons (pv 3) pa_nil))
      (blkOk_by (N := nBlown) (sc := defScope sBlown) (by decide +kernel)) (fun _ _ _ _ _ => pg_name (i := 12) scBlown.nd rfl (.inl rfl)) (fun _ _ _ _ _ => pts_one (pt_cmpR op_eq (pe_ix (ix_listK (K := K) rfl) (pv 4) (pv 12) (fun _ _ => rfl)) (pv 13) (nomark _)))
      (fun _ _ _ _ _ => pv 12))
      (pss_one (ps_expr (pe_bm PySem.F.plainAttrs_list PySem.F.slot_list_append PySem.F.type_list_append mt_append (pv 10) (pa_cons (pe_ix ix_list (pv 14) (pe_call gT hr rfl mT kT bT .nil pass0 (pa_cons (pv 0) (pa_cons (pe_callB call_len_seq (by rfl) G.len PySem.boot_len (pa_cons (pv 14) pa_nil)) pa_nil))) (fun _ _ => rfl)) pa_nil)))))))
      (pss_one (ps_expr (pe_bm PySem.F.plainAttrs_list PySem.F.slot_list_append PySem.F.type_list_append mt_append (pv 6) (pa_cons (pv 10) pa_nil)))))))
      (pss_one (ps_ret (pe_tup (pa_cons (pv 3) (pa_cons (pv 6) (pa_cons (pe_lc (own := [("_law_one", 12)]) (g := gName 12) rfl scBlown.nd (pi_range1 rfl G.range (pa_cons (pv 3) pa_nil))
      (blkOk_by (N := nBlown) (sc := defScope sBlown) (by decide +kernel)) (fun _ _ _ _ _ => pg_name (i := 12) scBlown.nd rfl (.inl rfl)) (fun _ _ _ _ _ => pts_one (pt_cmpR (op_in_seqK (K := K) rfl) (pe_ix (ix_listK (K := K) rfl) (pv 4) (pv 12) (fun _ _ => rfl)) (pe_ix (ix_tupK (K := K) rfl) (pv 2) pe_int (fun _ _ => rfl)) (by rfl)))
      (fun _ _ _ _ _ => pv 12)) pa_nil)))))))))), ?_⟩
    have plA : ∀ {σ H'} (j : Nat) (d : PyData), σ[2]? = some (some y) → Ex H H' → ([.int (R.moods : Int), .list (R.tables.map intsD), intsD R.liked] : List PyData)[j]? = some d → ∀ M : Addr → Prop, (M = MF) → EvD K M (tOp (rIxT K) (tVar 2) (tC (.int (j : Int)))) σ H' d := fun j d hs e hj M hM => by
      subst hM
      exact evd_ixT (j := j) (ds := [.int (R.moods : Int), .list (R.tables.map intsD), intsD R.liked]) (evd_var (i := 2) (d := plD R) hs (hy.ex e)) evd_int rfl hj
    -- how many moods
    refine q_asgP (K := K) (M := MF) (P := fun d => ∃ c : Nat, d = .int (c : Int) ∧ R.moods ≤ c ∧ c ≤ 6) (evp_I0 (PB := fun d => ∃ k : Nat, d = .int (k : Int) ∧ k < 7 - R.moods) (plA 0 _ rfl (Ex.refl _) rfl MF rfl) (evp_takeB (n := 7 - R.moods) (ev_var (i := 0) rfl) hb (evp_I0 (PB := (· = .int (R.moods : Int))) (evd_int (i := 7)) (plA 0 _ rfl (Ex.refl _) rfl MF rfl) fun a b pa pb => ?_) (by omega) (by omega)) fun a b pa pb => ?_) fun v3 d3 H1 e1 dv3 p3 => ?_
    · subst pa pb
      exact ⟨7, R.moods, rfl, rfl, _, rfl, fun _ => by
        have : (7 : Int) - (R.moods : Int) = ((7 - R.moods : Nat) : Int) := by omega
        rw [this]
        exact .int _⟩
    · obtain ⟨k, rfl, k1⟩ := pb
      subst pa
      exact ⟨R.moods, k, rfl, rfl, .int (R.moods + k), ⟨R.moods + k, by rw [Int.natCast_add], by omega, by omega⟩, fun _ => .int _⟩
    obtain ⟨c, rfl, c1, c6⟩ := p3
    cases dv3
    -- who owns each
    refine q_asgP (K := K) (M := MF) (P := fun d => ∃ ow : List Nat, d = intsD ow ∧ ow.length = c ∧ (∀ x ∈ ow, x < R.moods) ∧ ∀ i, i < R.moods → ow[i]? = some i) ((evp_catL okF (PA := (· = intsD (List.range R.moods))) (PB := fun d => ∃ r : List Nat, d = intsD r ∧ r.length = c - R.moods ∧ ∀ x ∈ r, x < R.moods) (evd_lrange okF (plA 0 _ rfl e1 rfl MF rfl) (by omega)) (((evn_lcRI (K := K) (M := MF) (n := c - R.moods) (fun i es => ∃ r : List Nat, es = (ofN r).map PyData.int ∧ r.length = i ∧ ∀ x ∈ r, x < R.moods) okF (eva_cons (evp_I0 (PA := (· = .int (c : Int))) (PB := (· = .int (R.moods : Int))) (evd_var (i := 3) rfl (.int _)) (plA 0 _ rfl e1 rfl MF rfl) fun a b pa pb => ?_) eva_nil) (by omega) ⟨[], rfl, rfl, fun x h => (nomatch h)⟩ (fun M' i es H' hm ok' hi hI e Qg qg => ?_)).data okF).mono fun d ⟨ds, hd, r, h1, h2, h3⟩ => ⟨r, by rw [hd, h1]; rfl, h2, h3⟩) (fun d h => ⟨_, h, by rw [List.length_map, ofN_len, List.length_range]; omega⟩) (fun d ⟨r, h, h2, _⟩ => ⟨_, h, by rw [List.length_map, ofN_len]; omega⟩)).mono fun d ⟨ds, es, h1, h2, r, h3, h4, h5⟩ => ?_) fun v4 d4 H2 e2 dv4 p4 => ?_
    · subst pa pb
      exact ⟨c, R.moods, rfl, rfl, _, rfl, fun _ => by
        have : (c : Int) - (R.moods : Int) = ((c - R.moods : Nat) : Int) := by omega
        rw [this]
        exact .int _⟩
    · obtain ⟨r, rfl, hl, hlt⟩ := hI
      refine qg _ H' (Ex.refl _) ⟨rfl, fun H5 e5 Q q => q true H5 (Ex.refl _) (fun _ => ?_) (fun h => (nomatch h))⟩
      have hx : ∀ {H6}, Ex H5 H6 → Dt K M' H6 y (plD R) := fun e6 => (hm _ _ (hy.ex e1)).ex (e5.trans e6)
      refine (evp_takeB (n := R.moods) (ev_var (i := 0) rfl) ((e1.trans (e.trans e5)) _ _ hb) (evd_ixT (j := 0) (ds := [.int (R.moods : Int), .list (R.tables.map intsD), intsD R.liked]) (evd_var (i := 2) (d := plD R) rfl (hx (Ex.refl _))) evd_int rfl rfl) (by omega) (by omega)).mono fun d ⟨k, h1, h2⟩ => ⟨r ++ [k], ?_, by rw [List.length_append, hl]; rfl, fun x hx => ?_⟩
      · unfold ofN
        rw [List.map_append, List.map_append, h1]
        rfl
      · rcases List.mem_append.mp hx with hx | hx
        · exact hlt x hx
        · rw [List.mem_singleton.mp hx]
          exact h2
    · injection h2 with h2
      injection h3 with h3
      refine ⟨List.range R.moods ++ r, ?_, by rw [List.length_append, List.length_range, h4]; omega, fun x hx => ?_, fun i hi => ?_⟩
      · rw [h1, h2, h3]
        unfold intsD ofN
        rw [List.map_append, List.map_append]
      · rcases List.mem_append.mp hx with hx | hx
        · exact List.mem_range.mp hx
        · exact h5 x hx
      · rw [List.getElem?_append_left (by rw [List.length_range]; exact hi)]
        simp [hi]
    obtain ⟨ow, rfl, ol, om, oi⟩ := p4
    have e02 := e1.trans e2
    obtain ⟨a, xs, rfl, hva, hvx⟩ : ∃ a xs, v = .ref a ∧ H a = some (.lst xs) ∧ Dts K MF H xs (S.map sgD) := by
      cases hv with
      | lst h1 h2 h3 => exact ⟨_, _, rfl, h1, h3⟩
    have hxl : xs.length = S.length := by rw [hvx.length, List.length_map]
    refine q_asgEm fun lt hlt => ?_
    have e3 : Ex H2 (upd H2 lt (.lst [])) := Ex.new hlt
    have hlt3 : (upd H2 lt (.lst [])) lt = some (.lst []) := upd_same
    generalize upd H2 lt (.lst []) = H3 at e3 hlt3
    refine ⟨_, rfl, a, xs, rfl, sq_of ((e02.trans e3) _ _ hva), for_it walk_enum (fun j σ' H' => Ex H2 H' ∧ ∃ u5 u7 u8 u9 u10 u11 u12 u13 u14 ys T, σ' = [some (.ref b), some (.ref a), some y, some (.int (c : Int)), some v4, u5, some (.ref lt), u7, u8, u9, u10, u11, u12, u13, u14] ∧ H' lt = some (.lst ys) ∧ Dts K (· = lt) H' ys (T.map intsD) ∧ T.length = j ∧ ∀ i t, T[i]? = some t → t.length = c ^ ks S i ∧ ∀ x ∈ t, x < c)
      ⟨e3, _, _, _, _, _, _, _, _, _, [], [], rfl, hlt3, .nil, rfl, fun i t h => by rw [List.getElem?_nil] at h; cases h⟩ (fun j σ' H' _ h => sq_of (h.1 _ _ (e02 _ _ hva))) ?_ ?_⟩
    · rintro j z σ' Ha Hb hj ⟨ea, u5, u7, u8, u9, u10, u11, u12, u13, u14, ys, T, rfl, hlta, dys, hTl, hT⟩ ⟨tt, cN, dd, rfl, htt, rfl, hc, hd⟩
      cases hc
      have hd : xs[j]? = some dd := hd
      rw [hxl] at hj
      obtain ⟨d, hdd, ddt⟩ := hvx.get hd
      have hSj : S[j]? = some (S[j]'hj) := List.getElem?_eq_getElem hj
      rw [List.getElem?_map, hSj] at hdd
      cases hdd
      have hkk := hK _ (List.mem_of_getElem? hSj)
      have hk2 := ks_le hK j
      have ekn : (S[j]'hj).2 = ((ks S j : Nat) : Int) := by rw [ks_of hSj, Int.toNat_of_nonneg hkk.1]
      obtain ⟨tq, rfl, htq⟩ : ∃ tq, dd = .ref tq ∧ H tq = some (.tup [.str (S[j]'hj).1, .int ((ks S j : Nat) : Int)]) := by
        have ddt : Dt K MF H dd (.tuple [.str (S[j]'hj).1, .int (S[j]'hj).2]) := ddt
        rw [ekn] at ddt
        cases ddt with
        | tup w1 w2 =>
        cases w2 with
        | cons a1 w2 =>
        cases w2 with
        | cons a2 w2 =>
        cases w2
        cases a1
        cases a2
        exact ⟨_, rfl, w1⟩
      have eb : Ex Ha (upd Ha tt (.tup [.int ((j : Nat) : Int), .ref tq])) := Ex.new htt
      have e2b := ea.trans eb
      refine ⟨_, _, rfl, SqT.of upd_same, rfl, _, _, rfl, _, _, rfl, _, _, rfl, SqT.of ((e02.trans e2b) _ _ htq), rfl, _, _, rfl, _, _, rfl, rfl, rfl, ?_⟩
      have hltb := eb _ _ hlta
      have dysb := dys.ex eb
      generalize upd Ha tt (.tup [.int ((j : Nat) : Int), .ref tq]) = Hb at eb e2b hltb dysb
      refine q_asgEm fun la hla => ?_
      have ec : Ex Hb (upd Hb la (.lst [])) := Ex.new hla
      have hlac : (upd Hb la (.lst [])) la = some (.lst (nums [])) := upd_same
      have hltc := ec _ _ hltb
      have hla_lt : la ≠ lt := fun z => by rw [z, hltb] at hla; cases hla
      have hla2 : H2 la = none := fresh_back e2b hla
      have dysc : Dts K (fun z => z = lt ∨ z = la) (upd Hb la (.lst [])) ys (T.map intsD) := (Dts.move (fun z zs h n => ⟨ec _ _ h, fun m => m.elim n fun e => by rw [e, hla] at h; cases h⟩) (fun z zs h => ec _ _ h) _ _ dysb)
      have e2c := e2b.trans ec
      generalize upd Hb la (.lst []) = Hc at ec hlac hltc dysc e2c
      -- every row of moods
      refine ⟨_, rfl, (c : Int), rfl, RgOk.of_le (by omega) (by omega) (by omega) (by omega), fun lg hlg => ?_⟩
      have er : Ex Hc (upd Hc lg (.lst (rgV 0 (c : Int)))) := Ex.new hlg
      have dvr : Dt K MF (upd Hc lg (.lst (rgV 0 (c : Int)))) (.ref lg) (intsD (List.range c)) := .lst upd_same (fun z => z) (by rw [rgV_nums]; exact nums_dts _)
      generalize upd Hc lg (.lst (rgV 0 (c : Int))) = Hr at er dvr
      refine ⟨_, rfl, .ref lg, (ofN (List.range c)).map PyData.int, ks S j, rfl, dvr, flD_ints K _, hk2, by rw [List.length_map, ofN_len, List.length_range]; omega, fun l refs H5 hl e5 hl5 dr5 => ?_⟩
      rw [row_enc] at dr5
      have ec5 := er.trans e5
      have e25 := e2c.trans ec5
      have hrl : refs.length = c ^ ks S j := by rw [dr5.length, List.length_map, chsG_len, List.length_range]
      have hl_la : l ≠ la := fun z => by rw [z, er _ _ hlac] at hl; cases hl
      have hl_lt : l ≠ lt := fun z => by rw [z, er _ _ hltc] at hl; cases hl
      refine ⟨l, rfl, ⟨_, sq_of hl5⟩, for_list (K := K) (a := l) (xs := refs) (fun i σ' H' => Ex H2 H' ∧ H' l = some (.lst refs) ∧ Dts K MT H' refs ((chsG (List.range c) (ks S j)).map fun k => tupI (ofN k)) ∧ H' lt = some (.lst ys) ∧ Dts K (fun z => z = lt ∨ z = la) H' ys (T.map intsD) ∧ ∃ u11 u12 u13 u14 t, σ' = [some (.ref b), some (.ref a), some y, some (.int (c : Int)), some v4, u5, some (.ref lt), some (.int ((j : Nat) : Int)), some (.str (S[j]'hj).1), some (.int ((ks S j : Nat) : Int)), some (.ref la), u11, u12, u13, u14] ∧ H' la = some (.lst (nums t)) ∧ t.length = i ∧ ∀ x ∈ t, x < c)
        ⟨e25, hl5, dr5, ec5 _ _ hltc, dysc.ex ec5, _, _, _, _, [], rfl, ec5 _ _ hlac, rfl, fun x h => (nomatch h)⟩ (fun i σ' H' _ h => sq_of h.2.1) ?_ ?_⟩
      · rintro i x σ' H6 hx ⟨e6, hl6, dr6, hlt6, dys6, u11, u12, u13, u14, t, rfl, hla6, htl, htc⟩
        obtain ⟨d, hdd, dx⟩ := dr6.get hx
        rw [List.getElem?_map] at hdd
        cases hki : (chsG (List.range c) (ks S j))[i]? with
        | none =>
          rw [hki] at hdd
          cases hdd
        | some k =>
        rw [hki] at hdd
        cases hdd
        obtain ⟨kl, km⟩ := chsG_row (List.mem_of_getElem? hki)
        have kc : ∀ x ∈ k, x < c := fun x hx => List.mem_range.mp (km x hx)
        have owAt : ∀ x, x < c → ow[x]? = some (ow.getD x 0) := fun x hx => by
          rw [List.getD_eq_getElem?_getD, List.getElem?_eq_getElem (by omega)]
          rfl
        have owM : ∀ x, x < c → ow.getD x 0 < R.moods := fun x hx => om _ (List.mem_of_getElem? (owAt x hx))
        have hi : i < refs.length := (List.getElem?_eq_some_iff.mp hx).1
        have hi36 : i < 36 := by
          rw [hrl] at hi
          have h1 : c ^ ks S j ≤ 6 ^ ks S j := Nat.pow_le_pow_left c6 _
          have h2 : (6 : Nat) ^ ks S j ≤ 6 ^ 2 := Nat.pow_le_pow_right (by decide) hk2
          omega
        have dow : ∀ {H'}, Ex H2 H' → Dt K MF H' v4 (intsD ow) := fun e => dv4.ex e
        have hb6 := (e02.trans e6) _ _ hb
        refine q_asgP (K := K) (M := MF) (evd_ledL (s := j) (k := k.map fun x => ow.getD x 0) (evd_var (i := 2) rfl (hy.ex (e02.trans e6))) (evd_var (i := 7) rfl (.int _)) (fun H1 e Q q => (evn_lcTM (K := K) (M := MF) (bs := k) (fun (x : Nat) => .int (x : Int)) (fun x => .int (ow.getD x 0 : Int)) okF (EvP.mono (evd_var (i := 11) (d := tupI (ofN k)) rfl (dt_any dx)) fun d h => ?_) ?_ fun M' z y' H' hM ok' hz e dz Qg qg => ?_) H1 e Q fun l xs ds H2 hl e2 hl2 dxs pds => q l xs ds H2 hl e2 hl2 dxs ?_) gR hK hj (by rw [List.length_map, kl]) fun w hw => ?_) fun v13 d13 H7 e7 dv13 p13 => ?_
        · rw [h]
          unfold tupI ofN
          rw [List.map_map]
          rfl
        · rw [kl]
          exact Nat.lt_of_le_of_lt hk2 (by decide)
        · exact qg _ H' (Ex.refl _) ⟨rfl, evt_yes, fun _ => evd_ixL (ds := (ofN ow).map PyData.int) (j := z) (evd_var (i := 4) rfl (hM _ _ (dow e6))) (evd_var (i := 12) rfl dz) rfl (by
            unfold ofN
            rw [List.map_map, List.getElem?_map, owAt z (kc z hz)]
            rfl)⟩
        · rw [pds]
          unfold ofN
          rw [List.map_map, List.map_map]
          rfl
        · obtain ⟨r, hr, rfl⟩ := List.mem_map.mp hw
          exact owM r (kc r hr)
        subst p13
        cases dv13
        obtain ⟨_, _, _, hmd⟩ := gR.toWf.led (s := j) (k := k.map fun x => ow.getD x 0) hj (by rw [List.length_map, kl]) fun w hw => by
          obtain ⟨r, hr, rfl⟩ := List.mem_map.mp hw
          exact owM r (kc r hr)
        generalize ledN R j (k.map fun x => ow.getD x 0) = md at hmd
        have e67 := e6.trans e7
        refine q_asgN (K := K) (M := MF) (evn_lcRI (K := K) (M := MF) (n := c) (fun i es => ∃ r : List Nat, es = (ofN r).map PyData.int ∧ r.length ≤ i ∧ (∀ x ∈ r, x < c) ∧ ∀ x, x < i → ow.getD x 0 = md → x ∈ r) okF (eva_cons ?_ eva_nil) (by omega) ⟨[], rfl, Nat.le_refl _, fun x h => (nomatch h), fun x h => absurd h (Nat.not_lt_zero x)⟩ (fun M' n es H' hm ok' hn hI e Qg qg => ?_)) fun l8 xs8 ds8 H8 hl8 e8 hl88 dxs8 pI => ?_
        · exact evd_var (i := 3) rfl (.int (c : Int))
        · obtain ⟨r, rfl, hrl', hrc, hrm⟩ := hI
          refine qg _ H' (Ex.refl _) ⟨rfl, fun H9 e9 Q q => (evt_test (K := K) (M := M') (evd_eqI (i := (ow.getD n 0 : Int)) (j := (md : Int)) (evd_ixL (ds := (ofN ow).map PyData.int) (j := n) (evd_var (i := 4) rfl ((hm _ _ (dow e67)).ex e9)) (evd_var (i := 12) rfl (.int (n : Int))) rfl (by
            unfold ofN
            rw [List.map_map, List.getElem?_map, owAt n hn]
            rfl)) (evd_var (i := 13) rfl (.int _)))) H9 (Ex.refl _) Q fun H10 e10 => q _ H10 e10 (fun hb => ?_) (fun hb => ?_)⟩
          · refine (evd_var (i := 12) rfl (.int (n : Int))).mono fun d h => ⟨r ++ [n], ?_, by rw [List.length_append, List.length_singleton]; omega, fun x hx => ?_, fun x hx hxm => ?_⟩
            · unfold ofN
              rw [List.map_append, List.map_append, h]
              rfl
            · rcases List.mem_append.mp hx with hx | hx
              · exact hrc x hx
              · rw [List.mem_singleton.mp hx]
                exact hn
            · by_cases e : x = n
              · rw [e]
                simp
              · exact List.mem_append_left _ (hrm x (by omega) hxm)
          · refine ⟨r, rfl, by omega, hrc, fun x hx hxm => ?_⟩
            by_cases e : x = n
            · rw [e] at hxm
              rw [hxm, decide_eq_true rfl] at hb
              cases hb
            · exact hrm x (by omega) hxm
        obtain ⟨r, rfl, hrl', hrc, hrm⟩ := pI
        have hmr : md ∈ r := hrm md (by omega) (by
          have := oi md hmd
          rw [owAt md (by omega)] at this
          exact Option.some.inj this)
        have e68 := e67.trans e8
        have e78 := e7.trans e8
        have dr14 : Dt K MF H8 (.ref l8) (.list ((ofN r).map PyData.int)) := .lst hl88 (fun z => z) dxs8
        refine s_appP (K := K) (M := MF) (i := 10) (e78 _ _ hla6) rfl (evp_pick (ns := ofN r) (n := (r.length : Int)) (evd_var (i := 14) rfl dr14) (ev_var (i := 0) rfl) ((e02.trans e68) _ _ hb) ((evd_lenL (es := (ofN r).map PyData.int) (eva_cons (evd_var (i := 14) rfl dr14) eva_nil)).mono fun d h => by rw [h, List.length_map, ofN_len]) (by rw [ofN_len]) (by rw [ofN_len]; exact List.length_pos_of_mem hmr) (by rw [ofN_len]; omega)) (by rw [nums_len]; exact Nat.lt_of_le_of_lt (show t.length ≤ 36 by omega) (by decide)) fun vz dz H9 e9 dvz pz => ?_
        obtain ⟨z, rfl, hz⟩ := pz
        cases dvz
        obtain ⟨z', hz', rfl⟩ : ∃ z' ∈ r, (z' : Int) = z := by
          unfold ofN at hz
          exact List.mem_map.mp hz
        have e69 := e78.trans e9
        have hla9 := e69 _ _ hla6
        refine ⟨Ex.mut (e6.trans e69) hla2, by rw [upd_ne hl_la]; exact e69 _ _ hl6, (dr6.ex e69).upd hla9 trivial, by rw [upd_ne hla_lt.symm]; exact e69 _ _ hlt6, (dys6.ex e69).upd hla9 (.inr rfl), _, _, _, _, t ++ [z'], rfl, by rw [upd_same, nums_app]; rfl, by rw [List.length_append, htl]; rfl, fun x hx => ?_⟩
        rcases List.mem_append.mp hx with hx | hx
        · exact htc x hx
        · rw [List.mem_singleton.mp hx]
          exact hrc z' hz'
      · rintro σ' H6 ⟨e6, hl6, dr6, hlt6, dys6, u11, u12, u13, u14, t, rfl, hla6, htl, htc⟩
        refine s_appP (K := K) (M := (· = lt)) (i := 6) (P := (· = intsD t)) hlt6 rfl (evd_var (i := 10) rfl (.lst hla6 hla_lt (nums_dts t))) (by rw [dys6.length, List.length_map, hTl]; exact Nat.lt_of_le_of_lt (show j ≤ 100 by omega) (by decide)) fun vt dt H7 e7 dvt pt => ?_
        subst pt
        have hlt7 := e7 _ _ hlt6
        refine ⟨Ex.mut (e6.trans e7) hlt, _, _, _, _, _, _, _, _, _, ys ++ [vt], T ++ [t], rfl, upd_same, ?_, by rw [List.length_append, hTl]; rfl, fun i' t' hi' => ?_⟩
        · rw [List.map_append]
          exact (((dys6.weak fun z hz => .inl hz).ex e7).append (.one dvt)).upd hlt7 rfl
        · by_cases h : i' < T.length
          · rw [List.getElem?_append_left h] at hi'
            exact hT i' t' hi'
          · have h2 := (List.getElem?_eq_some_iff.mp hi').1
            rw [List.length_append, List.length_singleton] at h2
            have e : i' = j := by omega
            subst e
            rw [List.getElem?_append_right (by omega), show i' - T.length = 0 by omega] at hi'
            cases hi'
            exact ⟨by rw [htl, hrl], htc⟩
    · rintro σ' Ha ⟨ea, u5, u7, u8, u9, u10, u11, u12, u13, u14, ys, T, rfl, hlta, dys, hTl, hT⟩
      rw [hxl] at hTl
      have owAt : ∀ x, x < c → ow[x]? = some (ow.getD x 0) := fun x hx => by
        rw [List.getD_eq_getElem?_getD, List.getElem?_eq_getElem (by omega)]
        rfl
      refine s_retP (K := K) (M := MF) (P := fun d => ∃ ls : List Nat, d = plD ⟨c, T, ls⟩ ∧ ls.Pairwise (· < ·) ∧ ∀ x ∈ ls, x < c) ((evp_tup (evpa_cons (evd_var (i := 3) rfl (.int (c : Int))) (evpa_cons (evd_var (i := 6) (d := .list (T.map intsD)) rfl (.lst hlta (fun z => z) (dys.weak fun _ h => h.elim))) (evpa_cons ((evn_lcRI (K := K) (M := MF) (n := c) (fun i es => ∃ ls : List Nat, es = (ofN ls).map PyData.int ∧ ls.Pairwise (· < ·) ∧ ∀ x ∈ ls, x < i) okF (eva_cons (evd_var (i := 3) rfl (.int _)) eva_nil) (by omega) ⟨[], rfl, .nil, fun x h => (nomatch h)⟩ (fun M' n es H' hm ok' hn hI e Qg qg => ?_)).data okF) eva_nil))) (fun ds ⟨_, _, h, _, _, _, h2, _, _, _, h3, _, h4⟩ => by rw [h, h2, h3, h4]; show 3 ≤ sizeLine; decide)).mono fun d ⟨ds, h0, a1, ds1, h1, p1, a2, ds2, h2, p2, a3, ds3, h3, ⟨es, p3, ls, hls, hp, hlt'⟩, h4⟩ => ⟨ls, by rw [h0, h1, h2, h3, h4, p1, p2, p3, hls]; rfl, hp, hlt'⟩) fun x d Hd ed dx pd => ?_
      · obtain ⟨r, rfl, hp, hlt'⟩ := hI
        refine qg _ H' (Ex.refl _) ⟨rfl, fun H9 e9 Q q => (evt_test (K := K) (M := M') (evd_inI (z := (ow.getD n 0 : Int)) (ys := ofN R.liked) (evd_ixL (ds := (ofN ow).map PyData.int) (j := n) (evd_var (i := 4) rfl ((hm _ _ (dv4.ex ea)).ex e9)) (evd_var (i := 12) rfl (.int (n : Int))) rfl (by
            unfold ofN
            rw [List.map_map, List.getElem?_map, owAt n hn]
            rfl)) (evd_ixT (j := 2) (ds := [.int (R.moods : Int), .list (R.tables.map intsD), intsD R.liked]) (evd_var (i := 2) (d := plD R) rfl ((hm _ _ (hy.ex (e02.trans ea))).ex e9)) evd_int rfl rfl))) H9 (Ex.refl _) Q fun H10 e10 => q _ H10 e10 (fun hb => ?_) (fun hb => ⟨r, rfl, hp, fun x hx => Nat.lt_succ_of_lt (hlt' x hx)⟩)⟩
        refine (evd_var (i := 12) rfl (.int (n : Int))).mono fun d h => ⟨r ++ [n], ?_, List.pairwise_append.mpr ⟨hp, List.pairwise_singleton _ _, fun x hx y hy => by rw [List.mem_singleton.mp hy]; exact hlt' x hx⟩, fun x hx => ?_⟩
        · unfold ofN
          rw [List.map_append, List.map_append, h]
          rfl
        · rcases List.mem_append.mp hx with hx | hx
          · exact Nat.lt_succ_of_lt (hlt' x hx)
          · rw [List.mem_singleton.mp hx]
            exact Nat.lt_succ_self _
      · obtain ⟨ls, rfl, hp, hlt'⟩ := pd
        exact q x ⟨c, T, ls⟩ Hd ((e02.trans ea).trans ed) ⟨⟨by show 1 ≤ c; omega, hTl, fun s tb h => hT s tb h, hp, hlt'⟩, by show c ≤ 40; omega⟩ c6 dx
end
end TH
set_option maxRecDepth 100000
set_option maxHeartbeats 4000000
namespace TH
open PySem L2 Evl
abbrev sBent3 : Stmt := top 50
/-- a list of at most n pairs -/
def PsP (n : Nat) (d : PyData) : Prop := ∃ ps : List (Int × Int), d = .list (ps.map qD) ∧ ps.length ≤ n
theorem PsP.mono {n m : Nat} {d : PyData} (h : PsP n d) (e : n ≤ m) : PsP m d := by
  obtain ⟨ps, h1, h2⟩ := h
  exact ⟨ps, h1, Nat.le_trans h2 e⟩
theorem psP_all {n : Nat} : ∀ {ds : List PyData}, (∀ d ∈ ds, PsP n d) → ∃ pss : List (List (Int × Int)), ds = pss.map (fun ps => PyData.list (ps.map qD)) ∧ ∀ ps ∈ pss, ps.length ≤ n
  | [], _ => ⟨[], rfl, fun ps h => nomatch h⟩
  | d :: ds, h => by
    obtain ⟨ps, h1, h2⟩ := h d (List.mem_cons_self)
    obtain ⟨pss, h3, h4⟩ := psP_all (n := n) fun d hd => h d (List.mem_cons_of_mem _ hd)
    refine ⟨ps :: pss, by rw [h1, h3]; rfl, fun x hx => ?_⟩
    rcases List.mem_cons.mp hx with rfl | hx
    · exact h2
    · exact h4 x hx
/-- a list that is filled -/
def FoundP (K : PySem.W.Frag) (M : Addr → Prop) (B : PyData → Prop) (n : Nat) (H : Hp) (l : Addr) : Prop :=
  ∃ (ds : List PyData) (xs : List V), H l = some (.lst xs) ∧ Dts K (more M l) H xs ds ∧ (∀ d ∈ ds, B d) ∧ ds.length ≤ n
section
variable {K : PySem.W.Frag} {M : Addr → Prop} {B : PyData → Prop} {n m : Nat} {H H0 H' : Hp} {σ : L2.St} {te ta tb : TE} {P : PyData → Prop} {D : Ends} {tz : TS} {i j : Nat} {l : Addr} {ps : List (Int × Int)} {tl th : TO} {lo hi : Option Int}
theorem evd_powB {i j : Int} (ha : EvD K M ta σ H (.int i)) (hb : EvD K M tb σ H (.int j)) (h : 0 ≤ j ∧ j ≤ 1000000 ∧ i.natAbs < 2 ^ 64) : EvD K M (tOp (rI (fun i j => 0 ≤ j ∧ j ≤ 1000000 ∧ i.natAbs < 2 ^ 64) fun i j => .int (i ^ j.toNat)) ta tb) σ H (.int (i ^ j.toNat)) :=
  evp_I ha hb fun a b pa pb => ⟨i, j, pa, pb, h, _, rfl, fun _ => .int _⟩
theorem evd_negB {i : Int} (ha : EvD K M ta σ H (.int i)) : EvD K M (tUn (rU fun i => .int (-i)) ta) σ H (.int (-i)) := fun H1 e Q q =>
  ha H1 e _ fun v d H2 e2 dv pd => by
    subst pd
    cases dv
    exact ⟨i, rfl, q _ _ H2 e2 (.int _) rfl⟩
theorem q_parB {PA PB : PyData → Prop} (ha : EvP K M ta σ H PA) (hb : EvP K M tb σ H PB)
    (k : ∀ v d v' d' H1, Ex H H1 → Dt K M H1 v d → PA d → Dt K M H1 v' d' → PB d' → tz D ((σ.set i (some v)).set j (some v')) H1) : tSeq (tPar i j (tCons ta (tCons tb tNil))) tz D σ H :=
  ha.use fun v d H1 e1 dv pd => (hb.ex e1).use fun v' d' H2 e2 dv' pd' => ⟨v, v', rfl, k v d v' d' H2 (e1.trans e2) (dv.ex e2) pd dv' pd'⟩
theorem evd_min2 {t : TA} {i j : Int} (h : EvDA K M t σ H [.int i, .int j]) : EvD K M (tCB (fun xs H Q => ∃ i j, xs = [.int i, .int j] ∧ Q (.int (if j < i then j else i)) H) t) σ H (.int (if j < i then j else i)) :=
  evp_cb h fun vs ds H1 e dv pd Q q => by
    subst pd
    cases dv with
    | cons r1 r2 =>
      cases r2 with
      | cons r3 r4 =>
        cases r1
        cases r3
        cases r4
        exact ⟨i, j, rfl, q _ _ H1 (Ex.refl _) (.int _) rfl⟩
theorem evp_ps (h : EvD K M te σ H (.list (ps.map qD))) : EvP K M te σ H (PsP ps.length) := h.mono fun d e => ⟨ps, e, Nat.le_refl _⟩
theorem evp_slP (ok : Ok M H) (ha : EvD K M ta σ H (.list (ps.map qD))) (hl : EvPO K M tl σ H lo) (hh : EvPO K M th σ H hi) : EvP K M (tSl (rSlL K) ta tl th) σ H (PsP ps.length) :=
  (evd_slL ok ha hl hh).mono fun d e => ⟨cutG ps lo hi, by
    rw [e]
    unfold cutG
    rw [List.length_map, List.map_take, List.map_drop], by
    unfold cutG
    rw [List.length_take, List.length_drop]
    omega⟩
theorem evp_catP (ok : Ok M H) (ha : EvP K M ta σ H (PsP n)) (hb : EvP K M tb σ H (PsP m)) (h : n ≤ 1000) (h2 : m ≤ 1000) : EvP K M (tOp rCat ta tb) σ H (PsP (n + m)) :=
  (evp_catL ok ha hb (fun d ⟨ps, e, z⟩ => ⟨_, e, by rw [List.length_map]; omega⟩) (fun d ⟨ps, e, z⟩ => ⟨_, e, by rw [List.length_map]; omega⟩)).mono fun d ⟨ds, es, e, ⟨p1, h1, l1⟩, ⟨p2, h2, l2⟩⟩ => by
    injection h1 with h1
    injection h2 with h2
    exact ⟨p1 ++ p2, by rw [e, h1, h2, List.map_append], by rw [List.length_append]; omega⟩
theorem evp_oneP {x : Int × Int} (ok : Ok M H) (h : EvD K M te σ H (qD x)) : EvP K M (tLst (tCons te tNil)) σ H (PsP 1) :=
  (evd_lst ok (eva_cons h eva_nil) (by show 1 ≤ sizeLine; decide)).mono fun d e => ⟨[x], e, Nat.le_refl _⟩
theorem evd_pairV {a b : Int} (ha : EvD K M ta σ H (.int a)) (hb : EvD K M tb σ H (.int b)) : EvD K M (tTup (tCons ta (tCons tb tNil))) σ H (qD (a, b)) :=
  evd_tup (ds := [.int a, .int b]) (eva_cons ha (eva_cons hb eva_nil)) (by show 2 ≤ sizeLine; decide)
theorem evd_revP (ok : Ok M H) (ha : EvD K M ta σ H (.list (ps.map qD))) : EvP K M (tRevL K ta) σ H (PsP ps.length) := fun H1 e Q q =>
  ha H1 e _ fun v d H2 e2 dv pd => by
    subst pd
    cases dv with
    | lst h1 h2 h3 => exact ⟨_, _, rfl, sq_of h1, fun p hp => q _ _ _ (e2.trans (Ex.new hp)) (.lst upd_same ((ok.ex (e.trans e2)).new hp) (h3.reverse.ex (Ex.new hp))) ⟨ps.reverse, by rw [List.map_reverse], by rw [List.length_reverse]; exact Nat.le_refl _⟩⟩
theorem FoundP.ex (h : FoundP K M B n H l) (e : Ex H H') : FoundP K M B n H' l := by
  obtain ⟨ls, xs, h1, h2, h3, h4⟩ := h
  exact ⟨ls, xs, e _ _ h1, h2.ex e, h3, h4⟩
theorem FoundP.ok (h : FoundP K M B n H l) (ok : Ok M H0) (e : Ex H0 H) : Ok (more M l) H := fun a m => by
  rcases m with m | rfl
  · exact ok.ex e a m
  · obtain ⟨ls, xs, h1, _⟩ := h
    rw [h1]
    simp
theorem s_foundP (h0 : H0 l = none) (e0 : Ex H0 H) (f : FoundP K M B n H l) (hs : σ[i]? = some (some (.ref l))) (h : EvP K (more M l) te σ H B) (hz : n < 1000)
    (k : ∀ H2, Ex H0 H2 → FoundP K M B (n + 1) H2 l → (∀ b o, H b = some o → b ≠ l → H2 b = some o) → D.nx σ H2) : tDrop (tBM K "list" rAppend (tVar i) (tCons te tNil)) D σ H := by
  obtain ⟨ls, xs, h1, h2, h3, h4⟩ := f
  refine s_appP h1 hs h (Nat.lt_of_le_of_lt (by rw [h2.length]; exact h4) (Nat.lt_trans hz (by decide))) fun v d H1 e dv hd => ?_
  refine k _ (Ex.mut (e0.trans e) h0) ⟨ls ++ [d], xs ++ [v], upd_same, ?_, fun U hU => ?_, by rw [List.length_append]; exact Nat.succ_le_succ h4⟩ fun b o hb hn => by rw [upd_ne hn]; exact e _ _ hb
  · exact ((h2.ex e).append (.one dv)).upd (e _ _ h1) (.inr rfl)
  · rcases List.mem_append.mp hU with hU | hU
    · exact h3 U hU
    · rw [List.mem_singleton.mp hU]
      exact hd
theorem q_foundP (h0 : H0 l = none) (e0 : Ex H0 H) (f : FoundP K M B n H l) (hs : σ[i]? = some (some (.ref l))) (h : EvP K (more M l) te σ H B) (hz : n < 1000)
    (k : ∀ H2, Ex H0 H2 → FoundP K M B (n + 1) H2 l → (∀ b o, H b = some o → b ≠ l → H2 b = some o) → tz D σ H2) : tSeq (tDrop (tBM K "list" rAppend (tVar i) (tCons te tNil))) tz D σ H := s_foundP (D := { D with nx := tz D }) h0 e0 f hs h hz k
theorem q_newFoundP {t : TA} (h : EvPA K M t σ H (fun ds => (∀ d ∈ ds, B d) ∧ ds.length ≤ n)) (hn : n ≤ 1000)
    (k : ∀ l H0, Ex H H0 → H0 l = none → ∀ H2, Ex H0 H2 → FoundP K M B n H2 l → tz D (σ.set i (some (.ref l))) H2) : tSeq (tAsg (tLst t) (gName i)) tz D σ H := by
  refine h.use fun vs ds H1 e dv ⟨h1, h2⟩ => ?_
  refine ⟨by rw [dv.length]; exact Nat.le_trans h2 (Nat.le_trans hn (by decide)), fun p hp => ?_⟩
  exact k p H1 e hp _ (Ex.new hp) ⟨ds, vs, upd_same, (dv.more hp).ex (Ex.new hp), h1, h2⟩
theorem evpa_B0 : EvPA K M tNil σ H (fun ds => (∀ d ∈ ds, B d) ∧ ds.length ≤ 0) := fun H1 e Q q => q [] [] H1 (Ex.refl _) .nil ⟨fun d h => (nomatch h), Nat.le_refl _⟩
theorem evpa_B {tr : TA} (ha : EvP K M ta σ H B) (hr : EvPA K M tr σ H (fun ds => (∀ d ∈ ds, B d) ∧ ds.length ≤ n)) : EvPA K M (tCons ta tr) σ H (fun ds => (∀ d ∈ ds, B d) ∧ ds.length ≤ n + 1) := fun H1 e Q q =>
  ha H1 e _ fun x a H2 e2 dx pa => hr H2 (e.trans e2) _ fun vs ds H3 e3 dv ⟨r1, r2⟩ => q _ _ H3 (e2.trans e3) (.cons (dx.ex e3) dv) ⟨fun d hd => by
    rcases List.mem_cons.mp hd with rfl | hd
    · exact pa
    · exact r1 d hd, Nat.succ_le_succ r2⟩
theorem evpa_Z0 : EvPA K M tNil σ H (fun ds => ∃ zs : List Int, ds = zs.map PyData.int ∧ zs.length = 0) := fun H1 e Q q => q [] [] H1 (Ex.refl _) .nil ⟨[], rfl, rfl⟩
theorem evpa_Z {tr : TA} (ha : EvP K M ta σ H (fun d => ∃ z : Int, d = .int z)) (hr : EvPA K M tr σ H (fun ds => ∃ zs : List Int, ds = zs.map PyData.int ∧ zs.length = n)) : EvPA K M (tCons ta tr) σ H (fun ds => ∃ zs : List Int, ds = zs.map PyData.int ∧ zs.length = n + 1) := fun H1 e Q q =>
  ha H1 e _ fun x a H2 e2 dx ⟨z, hz⟩ => hr H2 (e.trans e2) _ fun vs ds H3 e3 dv ⟨zs, r1, r2⟩ => q _ _ H3 (e2.trans e3) (.cons (dx.ex e3) dv) ⟨z :: zs, by rw [hz, r1]; rfl, by rw [List.length_cons, r2]⟩
/-- for z in a list of ints: found.append(..); found.append(..) -/
theorem q_forFound2 {tq : TE} {te1 te2 : TE} {o : Option V} (h0 : H0 l = none) (ok0 : Ok M H0) (e0 : Ex H0 H) (f : FoundP K M B n H l) (hl : EvP K (more M l) tq σ H (fun d => ∃ zs : List Int, d = .list (zs.map PyData.int) ∧ zs.length = m))
    (hs : ∀ u, (σ.set j u)[i]? = some (some (.ref l))) (hj : σ[j]? = some o) (hn : n + 2 * m < 1000)
    (hb1 : ∀ z H', Ex H0 H' → Ok (more M l) H' → EvP K (more M l) te1 (σ.set j (some (.int z))) H' B)
    (hb2 : ∀ z H', Ex H0 H' → Ok (more M l) H' → EvP K (more M l) te2 (σ.set j (some (.int z))) H' B)
    (k : ∀ u H', Ex H0 H' → FoundP K M B (n + 2 * m) H' l → tz D (σ.set j u) H') :
    tSeq (tFor (iList K tq) (gName j) (tSeq (tDrop (tBM K "list" rAppend (tVar i) (tCons te1 tNil))) (tDrop (tBM K "list" rAppend (tVar i) (tCons te2 tNil))))) tz D σ H := by
  refine hl.use fun v d H1 e1 dv hd => ?_
  obtain ⟨zs, rfl, hzl⟩ := hd
  cases dv with
  | lst a1 a2 a3 =>
  rename_i a xs
  have ex := a3.ints
  subst ex
  have hσ : σ.set j o = σ := by
    obtain ⟨hlt, e⟩ := List.getElem?_eq_some_iff.mp hj
    rw [← e]
    exact List.set_getElem_self hlt
  have nal : a ≠ l := fun z => a2 (.inr z)
  refine ⟨a, rfl, ⟨_, sq_of a1⟩, for_list (K := K) (a := a) (xs := zs.map V.int) (fun q σ' H' => Ex H0 H' ∧ H' a = some (.lst (zs.map V.int)) ∧ FoundP K M B (n + 2 * q) H' l ∧ q ≤ m ∧ ∃ u, σ' = σ.set j u)
    ⟨e0.trans e1, a1, f.ex e1, Nat.zero_le _, o, hσ.symm⟩ (fun q σ' H' _ h => sq_of h.2.1) ?_ ?_⟩
  · rintro q x σ' H2 hq ⟨e2, h2, f2, hqm, u, rfl⟩
    rw [List.getElem?_map] at hq
    cases hz : zs[q]? with
    | none =>
      rw [hz] at hq
      cases hq
    | some z =>
    rw [hz] at hq
    cases hq
    have lt : q < m := by
      have := (List.getElem?_eq_some_iff.mp hz).1
      omega
    have hsx : (σ.set j u).set j (some (.int z)) = σ.set j (some (.int z)) := by rw [List.set_set]
    show tSeq _ _ _ ((σ.set j u).set j (some (.int z))) H2
    rw [hsx]
    refine q_foundP h0 e2 f2 (hs _) (hb1 z H2 e2 (f2.ok ok0 e2)) (by omega) fun H3 e3 f3 k3 => ?_
    refine s_foundP h0 e3 f3 (hs _) (hb2 z H3 e3 (f3.ok ok0 e3)) (by omega) fun H4 e4 f4 k4 => ?_
    exact ⟨e4, k4 _ _ (k3 _ _ h2 nal) nal, f4, lt, _, rfl⟩
  · rintro σ' H2 ⟨e2, h2, f2, hqm, u, rfl⟩
    rw [List.length_map, hzl] at f2
    exact k u H2 e2 f2
/-- i, j = a pair -/
theorem q_asg2 {Pq : Int × Int → Prop} (h : EvP K M te σ H (fun d => ∃ x : Int × Int, d = qD x ∧ Pq x)) (k : ∀ x H1, Ex H H1 → Pq x → tz D ((σ.set i (some (.int x.1))).set j (some (.int x.2))) H1) :
    tSeq (tAsg te (gTup K 2 (gCons (gName i) (gCons (gName j) gNil)))) tz D σ H :=
  h.use fun v d H1 e dv pd => by
    obtain ⟨x, rfl, px⟩ := pd
    obtain ⟨a, rfl, ha⟩ := dt_tup dv
    exact ⟨a, _, rfl, ha, rfl, _, _, rfl, _, _, rfl, rfl, k x H1 e px⟩
end
theorem ch2_pairs (c : Nat) : ∃ ps : List (Int × Int), (chsG ((ofN (List.range c)).map PyData.int) 2).map PyData.tuple = ps.map qD ∧ ps.length = c ^ 2 := by
  refine ⟨(chsG (List.range c) 2).map fun k => ((k.getD 0 0 : Nat), (k.getD 1 0 : Nat)), ?_, by rw [List.length_map, chsG_len, List.length_range]⟩
  rw [row_enc, List.map_map]
  apply List.map_congr_left
  intro k hk
  obtain ⟨h, _⟩ := chsG_row hk
  match k, h with
  | [a, b], _ => rfl
section
variable {K : PySem.W.Frag} {M : Addr → Prop} {H : Hp} {σ : L2.St} {te : TE} {E : XK} {n : Nat} {B : PyData → Prop}
theorem evp_choice2 (h : EvD K MF te σ H (intsD (List.range n))) (hn : n ≤ 40) : EvP K MF (tCall (spLChG K) [] E (tCons te (tCons (tC (.int 2)) tNil))) σ H (PsP (n ^ 2)) := fun H1 e Q q =>
  h H1 e _ fun vr dr H2 e2 dvr pdr => by
    subst pdr
    refine ⟨vr, (ofN (List.range n)).map PyData.int, 2, rfl, dvr, flD_ints K _, Nat.le_refl _, by rw [List.length_map, ofN_len, List.length_range]; omega, fun lc refs H3 hlc e3 hlc3 drf => ?_⟩
    obtain ⟨cs, hcs, hcl⟩ := ch2_pairs n
    rw [hcs] at drf
    exact q _ (.list (cs.map qD)) _ (e2.trans e3) (.lst hlc3 (fun z => z) (drf.weak fun a h => trivial)) ⟨cs, rfl, Nat.le_of_eq hcl⟩
theorem evpa_one (h : EvP K M te σ H B) : EvPA K M (tCons te tNil) σ H (fun es => ∃ e, es = [e] ∧ B e) := fun H1 e Q q =>
  h H1 e _ fun v d H2 e2 dv pd => q [v] [d] H2 e2 (.cons dv .nil) ⟨d, rfl, pd⟩
end
def spBent3 (K : PySem.W.Frag) : Sp := fun vs H Q _ => ∃ (b : Addr) (v y y' : V) (S : List Sg) (R R' : Pl) (ps : List (Int × Int)), vs = [.ref b, v, y, y'] ∧ H b = some (Box b) ∧ Dt K MF H v (.list (ps.map qD)) ∧ Dt K MF H y (plD R) ∧ Dt K MF H y' (plD R') ∧ GoodR S R ∧ GoodR S R' ∧ R.moods ≤ 4 ∧ R'.moods ≤ 6 ∧ 1 ≤ ps.length ∧ ps.length ≤ 24 ∧
  ∀ x (pss : List (List (Int × Int))) H', Ex H H' → (∀ ps ∈ pss, ps.length ≤ 49) → pss.length ≤ 30 → Dt K MF H' x (.list (pss.map fun ps => PyData.list (ps.map qD))) → Q x H'
section
variable {P : Program} {w : World} {K : PySem.W.Frag} {mg : Str → Option Value} {base : Heap}
abbrev nBent3 : List Str := ["_law_box_here", "_law_pairs_here", "_law_one", "_law_other", "_law_far", "_law_spot", "_law_left", "_law_right", "_law_found", "_law_bad"]
theorem scBent3 : FnScope nBent3 ["_law_box_here", "_law_pairs_here", "_law_one", "_law_other"] (defScope sBent3) := ⟨rfl, rfl, rfl, by decide +kernel, rfl, by decide +kernel, by decide +kernel⟩
theorem ok_bent3 {f : Addr} {fd : FuncData} (F : Fun K "_law_bent" "_law_bent" sBent3 f fd) (G : GlobL mg) (GY : GlobY mg) (GT : OneF P w K mg base "_law_take" 2 ["_law_box_here", "_law_count"] spTake) (B1 : OneF P w K mg base "_law_choices" 1 ["_law_things", "_law_count"] (spLChG K)) :
    FnOk P w K mg base CX0 3 f fd ["_law_box_here", "_law_pairs_here", "_law_one", "_law_other"] (spBent3 K) := by
  obtain ⟨fT, dT, mT, kT, gT, bT⟩ := GT
  obtain ⟨f1, d1, m1, k1, g1, b1⟩ := B1
  refine F.ok scBent3 (fun vs H Q E h => ?_) (fun cdv A outer s0 H vs Q E hr h => ?_)
  · obtain ⟨b, v, y, y', S, R, R', ps, rfl, _⟩ := h
    rfl
  · obtain ⟨b, v, y, y', S, R, R', ps, rfl, hb, hv, hy, hy', gR, gR', h4, h6, hp1, hp2, q⟩ := h
    have hr1 : Room 1 _ := hr.mono (show 1 ≤ 2 by decide)
    have m1' := gR.m1
    have m1'' := gR'.m1
    refine ⟨_, (pss_cons (ps_par (by rfl) scBent3.nd (i := 4) (j := 5) rfl rfl (by decide) rfl rfl (pa_cons (pe_call gT hr rfl mT kT bT .nil pass0 (pa_cons (pv 0) (pa_cons (pe_op op_pow pe_int pe_int) pa_nil))) (pa_cons (pe_call gT hr rfl mT kT bT .nil pass0 (pa_cons (pv 0) (pa_cons (pe_callB call_len_seq (by rfl) G.len PySem.boot_len (pa_cons (pv 1) pa_nil)) pa_nil))) pa_nil)) (by rfl))
      (pss_cons (ps_asg (pe_ix ix_list (pv 1) (pv 5) (fun _ _ => rfl)) (pg_tup rfl (pgs_cons (pg_name (i := 6) scBent3.nd rfl (.inl rfl)) (pgs_cons (pg_name (i := 7) scBent3.nd rfl (.inl rfl)) pgs_nil))))
      (pss_cons (ps_set (i := 8) scBent3.nd rfl (.inl rfl) (pe_lst (pa_cons (pe_op op_cat (pe_slice sl_list (pv 1) po_none (po_some (pv 5))) (pe_slice sl_list (pv 1) (po_some (pe_op op_add (pv 5) pe_int)) po_none)) (pa_cons (pe_op op_cat (pe_op op_cat (pe_slice sl_list (pv 1) po_none (po_some (pv 5))) (pe_lst (pa_cons (pe_ix ix_list (pv 1) (pv 5) (fun _ _ => rfl)) pa_nil))) (pe_slice sl_list (pv 1) (po_some (pv 5)) po_none)) (pa_cons (pe_revL (pv 1)) (pa_cons (pe_lst pa_nil) pa_nil))))))
      (pss_cons (ps_for PassesOwn.never rfl (pi_list (pe_lst (pa_cons (pe_un un_neg pe_int) (pa_cons (pe_ix ix_tup (pv 2) pe_int (fun _ _ => rfl)) (pa_cons (pe_op op_add (pe_op op_add (pe_ix ix_tup (pv 2) pe_int (fun _ _ => rfl)) pe_int) (pv 4)) (pa_cons (pe_op op_sub (pe_un un_neg pe_int) (pv 4)) (pa_cons (pe_call gT hr rfl mT kT bT .nil pass0 (pa_cons (pv 0) (pa_cons (pe_ix ix_tup (pv 2) pe_int (fun _ _ => rfl)) pa_nil))) pa_nil))))))) (pg_name (i := 9) scBent3.nd rfl (.inl rfl))
      (pss_cons (ps_expr (pe_bm PySem.F.plainAttrs_list PySem.F.slot_list_append PySem.F.type_list_append mt_append (pv 8) (pa_cons (pe_op op_cat (pe_op op_cat (pe_slice sl_list (pv 1) po_none (po_some (pv 5))) (pe_lst (pa_cons (pe_tup (pa_cons (pv 9) (pa_cons (pv 7) pa_nil))) pa_nil))) (pe_slice sl_list (pv 1) (po_some (pe_op op_add (pv 5) pe_int)) po_none)) pa_nil)))
      (pss_one (ps_expr (pe_bm PySem.F.plainAttrs_list PySem.F.slot_list_append PySem.F.type_list_append mt_append (pv 8) (pa_cons (pe_op op_cat (pe_op op_cat (pe_slice sl_list (pv 1) po_none (po_some (pv 5))) (pe_lst (pa_cons (pe_tup (pa_cons (pv 9) (pa_cons (pv 7) pa_nil))) pa_nil))) (pe_slice sl_list (pv 1) (po_some (pv 5)) po_none)) pa_nil))))))
      (pss_cons (ps_for PassesOwn.never rfl (pi_list (pe_lst (pa_cons (pe_un un_neg pe_int) (pa_cons (pe_ix ix_tup (pv 3) pe_int (fun _ _ => rfl)) (pa_cons (pe_op op_add (pe_op op_add (pe_ix ix_tup (pv 3) pe_int (fun _ _ => rfl)) pe_int) (pv 4)) (pa_cons (pe_op op_sub (pe_un un_neg pe_int) (pv 4)) (pa_cons (pe_call gT hr rfl mT kT bT .nil pass0 (pa_cons (pv 0) (pa_cons (pe_ix ix_tup (pv 3) pe_int (fun _ _ => rfl)) pa_nil))) pa_nil))))))) (pg_name (i := 9) scBent3.nd rfl (.inl rfl))
      (pss_cons (ps_expr (pe_bm PySem.F.plainAttrs_list PySem.F.slot_list_append PySem.F.type_list_append mt_append (pv 8) (pa_cons (pe_op op_cat (pe_op op_cat (pe_slice sl_list (pv 1) po_none (po_some (pv 5))) (pe_lst (pa_cons (pe_tup (pa_cons (pv 6) (pa_cons (pv 9) pa_nil))) pa_nil))) (pe_slice sl_list (pv 1) (po_some (pe_op op_add (pv 5) pe_int)) po_none)) pa_nil)))
      (pss_one (ps_expr (pe_bm PySem.F.plainAttrs_list PySem.F.slot_list_append PySem.F.type_list_append mt_append (pv 8) (pa_cons (pe_op op_cat (pe_op op_cat (pe_slice sl_list (pv 1) po_none (po_some (pv 5))) (pe_lst (pa_cons (pe_tup (pa_cons (pv 6) (pa_cons (pv 9) pa_nil))) pa_nil))) (pe_slice sl_list (pv 1) (po_some (pv 5)) po_none)) pa_nil))))))
      (pss_one (ps_ret (pe_op op_cat (pv 8) (pe_lst (pa_cons (pe_call g1 hr1 rfl m1 k1 b1 .nil pass0 (pa_cons (pe_listRg rfl (by rfl) GY.list (prg_1 (by rfl) G.range (pe_callB (call_min2 rfl) (by rfl) G.min (by decide +kernel) (pa_cons (pe_ix ix_tup (pv 2) pe_int (fun _ _ => rfl)) (pa_cons (pe_ix ix_tup (pv 3) pe_int (fun _ _ => rfl)) pa_nil))))) (pa_cons pe_int pa_nil))) pa_nil)))))))))), ?_⟩
    -- far, spot
    refine q_parB (K := K) (M := MF) (PA := fun d => ∃ k : Int, d = .int k ∧ 0 ≤ k ∧ k < 10 ^ 28) (PB := fun d => ∃ k : Nat, d = .int (k : Int) ∧ k < ps.length) ?_ ?_ fun v1 d1 v2 d2 H1 e1 dv1 p1 dv2 p2 => ?_
    · exact evp_take (n := 10 ^ 28) (ev_var rfl) hb ((evd_powB evd_int evd_int (by decide)).mono fun d h => h) (by decide) (by decide)
    · exact evp_takeB (n := ps.length) (ev_var rfl) hb ((evd_lenL (es := ps.map qD) (eva_cons (evd_var (i := 1) rfl hv) eva_nil)).mono fun d h => by rw [h, List.length_map]) (by omega) (by omega)
    obtain ⟨far, rfl, f0, f1⟩ := p1
    obtain ⟨spot, rfl, hspot⟩ := p2
    cases dv1
    cases dv2
    have hsp : ps[spot]? = some (ps[spot]'hspot) := List.getElem?_eq_getElem hspot
    generalize ps[spot]'hspot = pr at hsp
    have hpq : (ps.map qD)[spot]? = some (qD pr) := by rw [List.getElem?_map, hsp]; rfl
    refine q_asg2 (K := K) (M := MF) (Pq := (· = pr)) ((evd_ixL (j := spot) (evd_var (i := 1) rfl (hv.ex e1)) (evd_var (i := 5) rfl (.int _)) rfl hpq).mono fun d h => ⟨pr, h, rfl⟩) fun x H2 e2 hx => ?_
    subst hx
    have e02 := e1.trans e2
    obtain ⟨left, right⟩ := x
    -- found = [..]
    have okF2 : Ok MF H2 := okF
    have hv2 := hv.ex e02
    refine q_newFoundP (K := K) (M := MF) (B := PsP 49) (n := 4) ?_ (by decide) fun l H3 e3 hl H4 e4 f4 => ?_
    · refine evpa_B ?_ (evpa_B ?_ (evpa_B ?_ (evpa_B ?_ evpa_B0)))
      · exact (evp_catP okF2 (evp_slP okF2 (evd_var (i := 1) rfl hv2) evo_none (evo_some (evd_var (i := 5) rfl (.int _)))) (evp_slP okF2 (evd_var (i := 1) rfl hv2) (evo_some (evd_add (evd_var (i := 5) rfl (.int _)) evd_int)) evo_none) (by omega) (by omega)).mono fun d h => h.mono (by omega)
      · exact (evp_catP okF2 (evp_catP okF2 (evp_slP okF2 (evd_var (i := 1) rfl hv2) evo_none (evo_some (evd_var (i := 5) rfl (.int _)))) (evp_oneP okF2 (evd_ixL (j := spot) (evd_var (i := 1) rfl hv2) (evd_var (i := 5) rfl (.int _)) rfl hpq)) (by omega) (by omega)) (evp_slP okF2 (evd_var (i := 1) rfl hv2) (evo_some (evd_var (i := 5) rfl (.int _))) evo_none) (by omega) (by omega)).mono fun d h => h.mono (by omega)
      · exact (evd_revP okF2 (evd_var (i := 1) rfl hv2)).mono fun d h => h.mono (by omega)
      · exact (evd_lst okF2 eva_nil (by decide)).mono fun d h => ⟨[], h, Nat.zero_le _⟩
    have e03 := e02.trans e3
    have vM := (hv.ex e03).more hl
    have yM := (hy.ex e03).more hl
    have yM' := (hy'.ex e03).more hl
    have hb3 := e03 _ _ hb
    have ix0 : ∀ {σ H'} (j : Nat) (u : V) (X : Pl), Dt K (more MF l) H3 u (plD X) → σ[j]? = some (some u) → Ex H3 H' → EvD K (more MF l) (tOp (rIxT K) (tVar j) (tC (.int 0))) σ H' (.int (X.moods : Int)) := fun j u X hu hs e =>
      evd_ixT (j := 0) (ds := [.int (X.moods : Int), .list (X.tables.map intsD), intsD X.liked]) (evd_var (i := j) (d := plD X) hs (hu.ex e)) evd_int rfl rfl
    have okl : Ok MF H3 := okF
    refine q_forFound2 (K := K) (M := MF) (m := 5) hl okl e4 f4 ?_ (fun u => rfl) rfl (by decide) (fun z H' e ok' => ?_) (fun z H' e ok' => ?_) fun u5 H5 e5 f5 => ?_
    · refine (evp_lst (f4.ok okl e4) (evpa_Z ?_ (evpa_Z ?_ (evpa_Z ?_ (evpa_Z ?_ (evpa_Z ?_ evpa_Z0))))) fun ds ⟨zs, h1, h2⟩ => by rw [h1, List.length_map, h2]; decide).mono fun d ⟨ds, h1, zs, h2, h3⟩ => ⟨zs, by rw [h1, h2], h3⟩
      · exact (evd_negB evd_int).mono fun d h => ⟨_, h⟩
      · exact (ix0 2 y R yM rfl e4).mono fun d h => ⟨_, h⟩
      · exact (evd_add (evd_add (ix0 2 y R yM rfl e4) evd_int) (evd_var (i := 4) rfl (.int far))).mono fun d h => ⟨_, h⟩
      · exact (evd_sub (evd_negB evd_int) (evd_var (i := 4) rfl (.int far))).mono fun d h => ⟨_, h⟩
      · exact (evp_takeB (n := R.moods) (ev_var rfl) (e4 _ _ hb3) (ix0 2 y R yM rfl e4) (by omega) (by omega)).mono fun d ⟨k, h, _⟩ => ⟨_, h⟩
    · have vm := vM.ex e
      exact (evp_catP ok' (evp_catP ok' (evp_slP ok' (evd_var (i := 1) rfl vm) evo_none (evo_some (evd_var (i := 5) rfl (.int _)))) (evp_oneP ok' (evd_pairV (evd_var (i := 9) rfl (.int z)) (evd_var (i := 7) rfl (.int right)))) (by omega) (by omega)) (evp_slP ok' (evd_var (i := 1) rfl vm) (evo_some (evd_add (evd_var (i := 5) rfl (.int _)) evd_int)) evo_none) (by omega) (by omega)).mono fun d h => h.mono (by omega)
    · have vm := vM.ex e
      exact (evp_catP ok' (evp_catP ok' (evp_slP ok' (evd_var (i := 1) rfl vm) evo_none (evo_some (evd_var (i := 5) rfl (.int _)))) (evp_oneP ok' (evd_pairV (evd_var (i := 9) rfl (.int z)) (evd_var (i := 7) rfl (.int right)))) (by omega) (by omega)) (evp_slP ok' (evd_var (i := 1) rfl vm) (evo_some (evd_var (i := 5) rfl (.int _))) evo_none) (by omega) (by omega)).mono fun d h => h.mono (by omega)
    refine q_forFound2 (K := K) (M := MF) (m := 5) hl okl e5 f5 ?_ (fun u => rfl) rfl (by decide) (fun z H' e ok' => ?_) (fun z H' e ok' => ?_) fun u6 H6 e6 f6 => ?_
    · refine (evp_lst (f5.ok okl e5) (evpa_Z ?_ (evpa_Z ?_ (evpa_Z ?_ (evpa_Z ?_ (evpa_Z ?_ evpa_Z0))))) fun ds ⟨zs, h1, h2⟩ => by rw [h1, List.length_map, h2]; decide).mono fun d ⟨ds, h1, zs, h2, h3⟩ => ⟨zs, by rw [h1, h2], h3⟩
      · exact (evd_negB evd_int).mono fun d h => ⟨_, h⟩
      · exact (ix0 3 y' R' yM' rfl e5).mono fun d h => ⟨_, h⟩
      · exact (evd_add (evd_add (ix0 3 y' R' yM' rfl e5) evd_int) (evd_var (i := 4) rfl (.int far))).mono fun d h => ⟨_, h⟩
      · exact (evd_sub (evd_negB evd_int) (evd_var (i := 4) rfl (.int far))).mono fun d h => ⟨_, h⟩
      · exact (evp_takeB (n := R'.moods) (ev_var rfl) (e5 _ _ hb3) (ix0 3 y' R' yM' rfl e5) (by omega) (by omega)).mono fun d ⟨k, h, _⟩ => ⟨_, h⟩
    · have vm := vM.ex e
      exact (evp_catP ok' (evp_catP ok' (evp_slP ok' (evd_var (i := 1) rfl vm) evo_none (evo_some (evd_var (i := 5) rfl (.int _)))) (evp_oneP ok' (evd_pairV (evd_var (i := 6) rfl (.int left)) (evd_var (i := 9) rfl (.int z)))) (by omega) (by omega)) (evp_slP ok' (evd_var (i := 1) rfl vm) (evo_some (evd_add (evd_var (i := 5) rfl (.int _)) evd_int)) evo_none) (by omega) (by omega)).mono fun d h => h.mono (by omega)
    · have vm := vM.ex e
      exact (evp_catP ok' (evp_catP ok' (evp_slP ok' (evd_var (i := 1) rfl vm) evo_none (evo_some (evd_var (i := 5) rfl (.int _)))) (evp_oneP ok' (evd_pairV (evd_var (i := 6) rfl (.int left)) (evd_var (i := 9) rfl (.int z)))) (by omega) (by omega)) (evp_slP ok' (evd_var (i := 1) rfl vm) (evo_some (evd_var (i := 5) rfl (.int _))) evo_none) (by omega) (by omega)).mono fun d h => h.mono (by omega)
    -- found + [choices]
    obtain ⟨ds, xs, hlx, dxs, hB, hdl⟩ := f6
    have e06 := e03.trans e6
    have dl : Dt K MF H6 (.ref l) (.list ds) := .lst hlx (fun z => z) (dxs.weak more_sub)
    have hmin : EvD K MF (tCB (fun xs H Q => ∃ i j, xs = [.int i, .int j] ∧ Q (.int (if j < i then j else i)) H) (tCons (tOp (rIxT K) (tVar 2) (tC (.int 0))) (tCons (tOp (rIxT K) (tVar 3) (tC (.int 0))) tNil)))
        [some (.ref b), some v, some y, some y', some (.int far), some (.int (spot : Int)), some (.int left), some (.int right), some (.ref l), u6] H6 (.int ((Nat.min R.moods R'.moods : Nat) : Int)) := by
      refine (evd_min2 (i := (R.moods : Int)) (j := (R'.moods : Int)) (eva_cons (evd_ixT (j := 0) (ds := [.int (R.moods : Int), .list (R.tables.map intsD), intsD R.liked]) (evd_var (i := 2) (d := plD R) rfl (hy.ex e06)) evd_int rfl rfl) (eva_cons (evd_ixT (j := 0) (ds := [.int (R'.moods : Int), .list (R'.tables.map intsD), intsD R'.liked]) (evd_var (i := 3) (d := plD R') rfl (hy'.ex e06)) evd_int rfl rfl) eva_nil))).mono fun d h => ?_
      rw [h]
      congr 1
      show _ = ((min R.moods R'.moods : Nat) : Int)
      split <;> omega
    have hmle : Nat.min R.moods R'.moods ≤ 4 := Nat.le_trans (Nat.min_le_left _ _) h4
    refine s_retP (K := K) (M := MF) (P := fun d => ∃ e, d = .list (ds ++ [e]) ∧ PsP 49 e) ((evp_catL okF (PA := (· = .list ds)) (PB := fun d => ∃ e, d = .list [e] ∧ PsP 49 e) (evd_var (i := 8) rfl dl) ((evp_lst okF (PL := fun es => ∃ e, es = [e] ∧ PsP 49 e) ?_ (fun es ⟨e, h, _⟩ => by rw [h]; show 1 ≤ sizeLine; decide)).mono fun d ⟨es, h1, e, h2, h3⟩ => ⟨e, by rw [h1, h2], h3⟩) (fun d h => ⟨_, h, by omega⟩) (fun d ⟨e, h, _⟩ => ⟨_, h, by show 1 ≤ 1000; decide⟩)).mono fun d ⟨d1, es, h1, h2, e, h3, h4⟩ => ?_) fun x d H7 e7 dx pd => ?_
    · exact evpa_one ((evp_choice2 (n := Nat.min R.moods R'.moods) (evd_lrange okF hmin (by omega)) (by omega)).mono fun d h => h.mono (Nat.le_trans (Nat.pow_le_pow_left hmle 2) (by decide)))
    · injection h2 with h2
      injection h3 with h3
      exact ⟨e, by rw [h1, h2, h3], h4⟩
    · obtain ⟨e, rfl, he⟩ := pd
      obtain ⟨pss, h1, h2⟩ := psP_all (n := 49) (ds := ds ++ [e]) fun d hd => by
        rcases List.mem_append.mp hd with hd | hd
        · exact hB d hd
        · rw [List.mem_singleton.mp hd]
          exact he
      have hpl : pss.length = ds.length + 1 := by
        have := congrArg List.length h1
        rw [List.length_append, List.length_map] at this
        exact this.symm
      rw [h1] at dx
      exact q x pss H7 (e06.trans e7) h2 (by omega) dx
end
end TH
set_option maxRecDepth 100000
set_option maxHeartbeats 4000000
namespace TH
open PySem L2 Evl
/-! ### which lists are books -/
theorem ca : ("a" : Str).cps.toList = [97] := by decide +kernel
theorem cz : ("z" : Str).cps.toList = [122] := by decide +kernel
theorem okc_iff (c : Nat) : okc c = true ↔ 97 ≤ c ∧ c ≤ 122 := by
  unfold okc
  rw [ca, cz]
  simp only [Bool.and_eq_true, Bool.not_eq_true', decide_eq_false_iff_not, List.cons_lt_cons_iff, List.not_lt_nil, and_false, or_false]
  omega
theorem nameB_iff (z : Str) : isNameB z = true ↔ NameOk z := by
  unfold isNameB
  simp only [Bool.and_eq_true, decide_eq_true_eq, List.all_eq_true, okc_iff]
  constructor
  · rintro ⟨⟨h1, h2⟩, h3⟩
    exact ⟨by omega, by omega, h3⟩
  · rintro ⟨h1, h2, h3⟩
    exact ⟨⟨by omega, by omega⟩, h3⟩
theorem nodup_key (S : List Sg) : (S.map fun p => (Sum.inr p.1 : Key)).Nodup ↔ (S.map (·.1)).Nodup := by
  have e : (S.map fun p => (Sum.inr p.1 : Key)) = (S.map (·.1)).map Sum.inr := by rw [List.map_map]; rfl
  rw [e]
  constructor
  · intro h
    exact List.Pairwise.of_map Sum.inr (fun a b hab e => hab (by rw [e])) h
  · intro h
    exact List.Pairwise.map _ (fun a b hab e => hab (Sum.inr.inj e)) h
theorem valid_split (S : List Sg) : validB S = true ↔ (1 ≤ S.length ∧ S.length ≤ 6) ∧ (∀ p ∈ S, isSignB p = true) ∧ (S.map (·.1)).Nodup ∧ ∃ p ∈ S, p.2 = 0 := by
  unfold validB
  have h := sall_lt (S.map fun p => (Sum.inr p.1 : Key))
  rw [List.length_map] at h
  have h2 : ((sall (S.map fun p => (Sum.inr p.1 : Key))).2 : Int) < (S.length : Int) ↔ ¬ (S.map (·.1)).Nodup := by
    rw [← nodup_key, ← h]
    exact Int.ofNat_lt
  simp only [Bool.and_eq_true, decide_eq_true_eq, List.all_eq_true, Bool.not_eq_true', decide_eq_false_iff_not, List.any_eq_true]
  rw [h2, Classical.not_not]
  constructor
  · rintro ⟨⟨a, b⟩, c, d, e⟩
    exact ⟨⟨by omega, by omega⟩, c, d, e⟩
  · rintro ⟨⟨a, b⟩, c, d, e⟩
    exact ⟨⟨by omega, by omega⟩, c, d, e⟩
theorem sign_iff (p : Sg) : isSignB p = true ↔ NameOk p.1 ∧ 0 ≤ p.2 ∧ p.2 ≤ 2 := by
  unfold isSignB
  simp only [Bool.and_eq_true, decide_eq_true_eq, nameB_iff]
theorem valid_good {S : List Sg} (h : Good S) : validB S = true := by
  rw [valid_split]
  exact ⟨⟨h.ne, h.len⟩, fun p hp => (sign_iff p).mpr ⟨h.name p hp, h.kids p hp⟩, h.nd, h.leaf⟩
theorem bad_of {S : List Sg} (h : ¬ ((1 ≤ S.length ∧ S.length ≤ 6) ∧ (∀ p ∈ S, isSignB p = true) ∧ (S.map (·.1)).Nodup ∧ ∃ p ∈ S, p.2 = 0)) : validB S = false := by
  rw [← Bool.not_eq_true, valid_split]
  exact h
theorem bad_sign {S : List Sg} {p : Sg} (hp : p ∈ S) (h : ¬ (NameOk p.1 ∧ 0 ≤ p.2 ∧ p.2 ≤ 2)) : validB S = false :=
  bad_of fun z => h ((sign_iff p).mp (z.2.1 p hp))
/-- what may be told again and held against another -/
structure Sane (S : List Sg) : Prop where
  len : S.length ≤ 100
  name : ∀ q ∈ S, q.1.length ≤ 1000
  ok : ∀ q ∈ S, PyData.strOk q.1 = true
theorem strOk_iff (z : Str) : PyData.strOk z = true ↔ ∀ c ∈ z.cps.toList, c < 0x110000 := by
  unfold PyData.strOk
  rw [← Array.all_toList, List.all_eq_true]
  simp only [decide_eq_true_eq]
theorem NameOk.strOk {z : Str} (h : NameOk z) : PyData.strOk z = true := by
  rw [strOk_iff]
  intro c hc
  have := (h.az c hc).2
  omega
theorem Good0.sane {S : List Sg} (h : Good0 S) : Sane S :=
  ⟨Nat.le_trans h.len (by decide), fun q hq => Nat.le_trans (h.name q hq).hi (by decide), fun q hq => (h.name q hq).strOk⟩
theorem Sane.append {S T : List Sg} (h : Sane S) (k : Sane T) (hl : S.length + T.length ≤ 100) : Sane (S ++ T) :=
  ⟨by rw [List.length_append]; exact hl, fun q hq => (List.mem_append.mp hq).elim (h.name q) (k.name q), fun q hq => (List.mem_append.mp hq).elim (h.ok q) (k.ok q)⟩
theorem Sane.sub {S T : List Sg} (h : Sane S) (hs : ∀ q ∈ T, q ∈ S) (hl : T.length ≤ 100) : Sane T := ⟨hl, fun q hq => h.name q (hs q hq), fun q hq => h.ok q (hs q hq)⟩
theorem Sane.one {q : Sg} (h1 : q.1.length ≤ 1000) (h2 : PyData.strOk q.1 = true) : Sane [q] :=
  ⟨by show 1 ≤ 100; decide, fun r hr => by rw [List.mem_singleton.mp hr]; exact h1, fun r hr => by rw [List.mem_singleton.mp hr]; exact h2⟩
/-- one sign of the list otherwise -/
def bent (S : List Sg) (j : Nat) (q : Sg) : List Sg := S.take j ++ [q] ++ S.drop (j + 1)
theorem bent_mem (S : List Sg) (j : Nat) (q : Sg) : q ∈ bent S j q := by
  unfold bent
  exact List.mem_append_left _ (List.mem_append_right _ (List.mem_singleton.mpr rfl))
theorem Sane.bent {S : List Sg} {j : Nat} {q : Sg} (h : Sane S) (hl : S.length ≤ 50) (h1 : q.1.length ≤ 1000) (h2 : PyData.strOk q.1 = true) : Sane (bent S j q) := by
  have h3 := Sane.one h1 h2
  unfold TH.bent
  have l1 : (S.take j).length ≤ 50 := Nat.le_trans (by rw [List.length_take]; exact Nat.min_le_right _ _) hl
  have l2 : (S.drop (j + 1)).length ≤ 49 := by rw [List.length_drop]; omega
  refine ((h.sub (fun q hq => List.mem_of_mem_take hq) (by omega)).append h3 ?_).append (h.sub (fun q hq => List.mem_of_mem_drop hq) (by omega)) ?_
  · show (S.take j).length + 1 ≤ 100
    omega
  · rw [List.length_append]
    show (S.take j).length + 1 + (S.drop (j + 1)).length ≤ 100
    omega
/-- parts of lists -/
theorem cutG_take {α : Type} (xs : List α) (j : Nat) : cutG xs none (some (j : Int)) = xs.take j := by
  unfold cutG
  rw [HT.sIx_none, HT.sIx_nat, List.drop_zero, Nat.sub_zero, List.take_eq_take_min]
  rw [Nat.min_assoc, Nat.min_self, ← List.take_eq_take_min]
theorem cutG_drop {α : Type} (xs : List α) (j : Nat) : cutG xs (some (j : Int)) none = xs.drop j := by
  unfold cutG
  rw [HT.sIx_none, HT.sIx_nat]
  by_cases h : j ≤ xs.length
  · rw [Nat.min_eq_left h]
    exact List.take_of_length_le (by rw [List.length_drop]; omega)
  · rw [Nat.min_eq_right (by omega), List.drop_eq_nil_of_le (Nat.le_refl _), List.drop_eq_nil_of_le (by omega), List.take_nil]
theorem cutS_len (z : Str) (lo hi : Option Int) : (cutS z lo hi).length ≤ z.length := by
  show (cutS z lo hi).cps.size ≤ _
  unfold cutS
  rw [List.size_toArray, List.length_take, List.length_drop, Array.length_toList]
  show _ ≤ z.cps.size
  omega
theorem cutS_mem (z : Str) (lo hi : Option Int) : ∀ c ∈ (cutS z lo hi).cps.toList, c ∈ z.cps.toList := by
  intro c hc
  exact List.mem_of_mem_drop (List.mem_of_mem_take hc)
theorem app_len (x y : Str) : (x ++ y).length = x.length + y.length := by
  show (x ++ y).cps.size = _
  rw [Str.cps_append, Array.size_append]
  rfl
theorem app_mem (x y : Str) (c : Nat) : c ∈ (x ++ y).cps.toList ↔ c ∈ x.cps.toList ∨ c ∈ y.cps.toList := by
  rw [Str.cps_append, Array.toList_append, List.mem_append]
theorem strOk_app {x y : Str} (h : PyData.strOk x = true) (k : PyData.strOk y = true) : PyData.strOk (x ++ y) = true := by
  rw [strOk_iff] at *
  intro c hc
  rcases (app_mem x y c).mp hc with hc | hc
  · exact h c hc
  · exact k c hc
theorem strOk_cut {x : Str} (lo hi : Option Int) (h : PyData.strOk x = true) : PyData.strOk (cutS x lo hi) = true := by
  rw [strOk_iff] at *
  exact fun c hc => h c (cutS_mem x lo hi c hc)
end TH
set_option maxRecDepth 100000
set_option maxHeartbeats 4000000
namespace TH
open PySem PySem.Spec PyProof.Rows L2 Evl NdefX LamX
abbrev sLaw : Stmt := top 51
def spLaw (K : PySem.W.Frag) (Pt : Addr) : Sp := fun vs H Q _ => ∃ (a : Addr) (ns : List Int), vs = [.ref a] ∧ SqL K H a (ns.map V.int) ∧ ns.length ≤ 63 ∧ H Pt = some (.tbl #[]) ∧ ∀ H', Q (.bl true) H'
structure GlobV (mg : Str → Option Value) : Prop extends GlobL mg where
  max : mg "max" = none
  list : mg "list" = none
  isinstance : mg "isinstance" = none
  bool : mg "bool" = none
/-- a list of at most n lists of pairs -/
def BsP (n : Nat) (d : PyData) : Prop := ∃ ds : List PyData, d = .list ds ∧ (∀ e ∈ ds, PsP 49 e) ∧ ds.length ≤ n
section
variable {K : PySem.W.Frag} {M : Addr → Prop} {H H' : Hp} {σ : L2.St} {ta tb te tc td : TE} {E : XK} {n m : Nat} {S : List Sg} {R R' : Pl} {ps : List (Int × Int)} {b : Addr} {bb : Bool}
theorem evp_catB (ok : Ok M H) (ha : EvP K M ta σ H (BsP n)) (hb : EvP K M tb σ H (BsP m)) (h : n ≤ 1000) (h2 : m ≤ 1000) : EvP K M (tOp rCat ta tb) σ H (BsP (n + m)) :=
  (evp_catL ok ha hb (fun d ⟨ps, e, _, z⟩ => ⟨_, e, by omega⟩) (fun d ⟨ps, e, _, z⟩ => ⟨_, e, by omega⟩)).mono fun d ⟨ds, es, e, ⟨p1, h1, a1, l1⟩, ⟨p2, h2, a2, l2⟩⟩ => by
    injection h1 with h1
    injection h2 with h2
    subst h1 h2
    exact ⟨_, e, fun x hx => (List.mem_append.mp hx).elim (a1 x) (a2 x), by rw [List.length_append]; omega⟩
theorem evp_oneB (ok : Ok M H) (h : EvP K M te σ H (PsP 49)) : EvP K M (tLst (tCons te tNil)) σ H (BsP 1) :=
  (evp_lst ok (evpa_one h) fun ds ⟨e, h, _⟩ => by rw [h]; show 1 ≤ sizeLine; decide).mono fun d ⟨ds, h1, e, h2, h3⟩ => ⟨ds, h1, fun x hx => by rw [h2, List.mem_singleton] at hx; rw [hx]; exact h3, by rw [h2]; exact Nat.le_refl _⟩
theorem evp_bent3 (hb : Ev ta σ H (.ref b)) (hx : H b = some (Box b)) (hv : EvD K MF tb σ H (.list (ps.map qD))) (hy : EvD K MF tc σ H (plD R)) (hy' : EvD K MF td σ H (plD R')) (g : GoodR S R) (g' : GoodR S R') (h4 : R.moods ≤ 4) (h6 : R'.moods ≤ 6) (h1 : 1 ≤ ps.length) (h24 : ps.length ≤ 24) :
    EvP K MF (tCall (spBent3 K) [] E (tCons ta (tCons tb (tCons tc (tCons td tNil))))) σ H (BsP 30) := fun H1 e Q q =>
  hb H1 e _ fun H2 e2 => hv H2 (e.trans e2) _ fun v d H3 e3 dv pd => hy H3 ((e.trans e2).trans e3) _ fun vy dy H4 e4 dvy py => hy' H4 (((e.trans e2).trans e3).trans e4) _ fun vy' dy' H5 e5 dvy' py' => by
    subst pd py py'
    refine ⟨b, v, vy, vy', S, R, R', ps, rfl, ((((e.trans e2).trans e3).trans e4).trans e5) _ _ hx, dv.ex (e4.trans e5), dvy.ex e5, dvy', g, g', h4, h6, h1, h24, fun x pss H6 e6 h49 h30 dx => ?_⟩
    refine q x _ H6 ((((e2.trans e3).trans e4).trans e5).trans e6) dx ⟨_, rfl, fun e he => ?_, by rw [List.length_map]; exact h30⟩
    obtain ⟨p, hp, rfl⟩ := List.mem_map.mp he
    exact ⟨p, rfl, h49 p hp⟩
theorem evd_due (ha : EvD K MF ta σ H (.list (S.map sgD))) (hb : EvD K MF tb σ H (plD R)) (hc : EvD K MF tc σ H (plD R')) (hd : EvD K MF td σ H (.list (ps.map qD))) (g : GoodR S R) (g' : GoodR S R') (hK : KidsOk S) (hS : S.length ≤ 100) (hp : ps.length < 64) (hm : R.moods * R'.moods ≤ 40) (hbb : bb = true ↔ ShowsP S R R' ps) :
    EvD K M (tCall (spLDue K) [] E (tCons ta (tCons tb (tCons tc (tCons td tNil))))) σ H (.bool bb) := fun H1 e Q q =>
  ha H1 e _ fun v d H2 e2 dv pd => hb H2 (e.trans e2) _ fun vy dy H3 e3 dvy py => hc H3 ((e.trans e2).trans e3) _ fun vy' dy' H4 e4 dvy' py' => hd H4 (((e.trans e2).trans e3).trans e4) _ fun vz dz H5 e5 dvz pz => by
    subst pd py py' pz
    refine ⟨v, vy, vy', vz, S, R, R', ps, rfl, dv.ex ((e3.trans e4).trans e5), dvy.ex (e4.trans e5), dvy'.ex e5, dvz, g, g', hK, hS, hp, hm, fun b' H6 e6 hb' => ?_⟩
    have : b' = bb := by
      cases b' <;> cases bb <;> simp_all
    exact q _ _ H6 ((((e2.trans e3).trans e4).trans e5).trans e6) (.bl _) (by rw [this])
theorem flat_ps (ps : List (Int × Int)) : Flat 2 (.list (ps.map qD)) := flat_list fun d hd => by
  obtain ⟨x, _, rfl⟩ := List.mem_map.mp hd
  exact flat_tupI _
end
theorem s_forData {K : PySem.W.Frag} {M : Addr → Prop} {σ : L2.St} {H : Hp} {tl : TE} {j : Nat} {tu : TS} {D : Ends} {PL : List PyData → Prop} (h : EvP K M tl σ H (fun d => ∃ ds, d = .list ds ∧ PL ds))
    (k : ∀ a xs ds H1, Ex H H1 → H1 a = some (.lst xs) → Dts K M H1 xs ds → PL ds → ∃ Pv : Nat → L2.St → Hp → Prop, Pv 0 σ H1 ∧ (∀ i σ' H', Pv i σ' H' → H' a = some (.lst xs)) ∧
      (∀ i x σ' H', xs[i]? = some x → Pv i σ' H' → tu { D with nx := Pv (i + 1), ct := Pv (i + 1), bk := D.nx } (σ'.set j (some x)) H') ∧ ∀ σ' H', Pv xs.length σ' H' → D.nx σ' H') :
    tFor (iList K tl) (gName j) tu D σ H :=
  h.use fun v d H1 e dv pd => by
    obtain ⟨ds, rfl, pl⟩ := pd
    cases dv with
    | lst a1 a2 a3 =>
    obtain ⟨Pv, p0, pk, ps, pe⟩ := k _ _ _ H1 e a1 a3 pl
    exact ⟨_, rfl, ⟨_, sq_of a1⟩, for_list (K := K) Pv p0 (fun i σ' H' _ p => sq_of (pk i σ' H' p)) (fun i x σ' H' hx p => ps i x σ' H' hx p) (fun σ' H' p => pe σ' H' p)⟩
theorem exN_of {H H' : Hp} (e : Ex H H') : ExtN H H' := ExtN.of e
theorem good_leaf {S : List Sg} (g : Good S) : ∃ s, s < S.length ∧ ks S s = 0 := by
  obtain ⟨q, hq, h0⟩ := g.leaf
  obtain ⟨s, hs⟩ := List.mem_iff_getElem?.mp hq
  refine ⟨s, (List.getElem?_eq_some_iff.mp hs).1, ?_⟩
  rw [ks_of hs, h0]
  rfl
theorem qD_nat (L : List (Nat × Nat)) : L.map pD = (L.map fun p => ((p.1 : Int), (p.2 : Int))).map qD := by
  rw [List.map_map]
  rfl
theorem likeB_self (S : List Sg) : likeB S S = true := by
  unfold likeB
  rw [Bool.and_eq_true, decide_eq_true_eq, decide_eq_true_eq]
  exact ⟨rfl, rfl⟩
section
variable {P : Program} {w : World} {K : PySem.W.Frag} {mg : Str → Option Value} {base : Heap} {CB CR CN CU : Addr}
abbrev nLaw : List Str := ["_law_script", "_law_k", "_law_box_here", "_law_signs_here", "_law_book", "_law_one", "_law_blown_here", "_law_other", "_law_left", "_law_right", "_law_pairs_here", "_law_some", "_law_kept", "_law_found"]
theorem scLaw : FnScope nLaw ["_law_script"] (defScope sLaw) := ⟨rfl, rfl, rfl, by decide +kernel, rfl, by decide +kernel, by decide +kernel⟩
theorem ok_law {f Pt : Addr} {fd : FuncData} {nm : Nat → Nat → Str} (F : Fun K "law" "law" sLaw f fd) (G : GlobV mg)
    (GX : OneF P w K mg base "_law_box" 1 ["_law_script", "_law_k"] (spBox K)) (GS : OneF P w K mg base "_law_signs" 3 ["_law_box_here"] (spSigns K))
    (GP : OneF P w K mg base "_law_reader" 3 ["_law_box_here", "_law_signs_here", "_law_most"] (spLReader K)) (GL : OneF P w K mg base "_law_blown" 3 ["_law_box_here", "_law_signs_here", "_law_plain"] (spBlown K))
    (GA : OneF P w K mg base "_law_made" 6 ["_law_book", "_law_plain"] (spLMade K CB CR)) (GQ : OneF P w K mg base "_law_pairs" 2 ["_law_signs_here", "_law_one", "_law_other"] (spLPairs K))
    (GN : OneF P w K mg base "_law_bent" 3 ["_law_box_here", "_law_pairs_here", "_law_one", "_law_other"] (spBent3 K)) (GD : OneF P w K mg base "_law_due" 2 ["_law_signs_here", "_law_one", "_law_other", "_law_pairs_here"] (spLDue K))
    (GW : OneX P w K mg base "shows" 5 ["one", "other", "pairs"] (spShows K CB CR CU [(Pt, nm)])) (T : BookT K mg CB)
    {fI : Addr} {fdI : FuncData} (mk : Mk K CB fI) (GI : FnOk P w K mg base (L2.CX P w) 4 fI fdI ["self", "signs"] (spInit K CB CN)) (bI : Binds K fdI ["self", "signs"] []) :
    FnOk P w K mg base CX0 8 f fd ["_law_script"] (spLaw K Pt) := by
  obtain ⟨fX, dX, mX, kX, gX, bX⟩ := GX
  obtain ⟨fS, dS, mS, kS, gS, bS⟩ := GS
  obtain ⟨fP, dP, mP, kP, gP, bP⟩ := GP
  obtain ⟨fL, dL, mL, kL, gL, bL⟩ := GL
  obtain ⟨fA, dA, mA, kA, gA, bA⟩ := GA
  obtain ⟨fQ, dQ, mQ, kQ, gQ, bQ⟩ := GQ
  obtain ⟨fN, dN, mN, kN, gN, bN⟩ := GN
  obtain ⟨fD, dD, mD, kD, gD, bD⟩ := GD
  obtain ⟨fW, dW, mW, kW, gW, bW⟩ := GW
  refine F.ok scLaw (fun vs H Q E h => ?_) fun cdv A outer s H vs Q E hr h => ?_
  · obtain ⟨a, ns, rfl, _⟩ := h
    rfl
  · obtain ⟨a, ns, rfl, hS, hlen, hPt, q⟩ := h
    have hr1 : Room 1 _ := hr.mono (show 1 ≤ 7 by decide)
    have hr2 : Room 2 _ := hr.mono (show 2 ≤ 7 by decide)
    have hr3 : Room 3 _ := hr.mono (show 3 ≤ 7 by decide)
    have hr5 : Room 5 _ := hr.mono (show 5 ≤ 7 by decide)
    have hr6 : Room 6 _ := hr.mono (show 6 ≤ 7 by decide)
    have hu := hu64 hr
    refine ⟨_, (pss_cons (ps_for PassesOwn.never rfl (pi_range1 rfl G.range (pa_cons (pe_callB (call_max2 rfl) (by rfl) G.max (by decide +kernel) (pa_cons pe_int (pa_cons (pe_callB (call_min2 rfl) (by rfl) G.min (by decide +kernel) (pa_cons (pe_callB call_len_seq (by rfl) G.len PySem.boot_len (pa_cons (pv 0) pa_nil)) (pa_cons pe_int pa_nil))) pa_nil))) pa_nil)) (pg_name (i := 1) scLaw.nd rfl (.inl rfl))
      (pss_cons (ps_set (i := 2) scLaw.nd rfl (.inl rfl) (pe_call gX hr1 rfl mX kX bX .nil pass0 (pa_cons (pv 0) (pa_cons (pv 1) pa_nil))))
      (pss_cons (ps_set (i := 3) scLaw.nd rfl (.inl rfl) (pe_call gS hr3 rfl mS kS bS .nil pass0 (pa_cons (pv 2) pa_nil)))
      (pss_cons (ps_set (i := 4) scLaw.nd rfl (.inl rfl) (pe_make mk GI hr5 rfl T.g bI .nil passL (pa_cons (pv 3) pa_nil)))
      (pss_cons (ps_set (i := 5) scLaw.nd rfl (.inl rfl) (pe_call gP hr3 rfl mP kP bP .nil pass0 (pa_cons (pv 2) (pa_cons (pv 3) (pa_cons pe_int pa_nil)))))
      (pss_cons (ps_set (i := 6) scLaw.nd rfl (.inl rfl) (pe_call gL hr3 rfl mL kL bL .nil pass0 (pa_cons (pv 2) (pa_cons (pv 3) (pa_cons (pv 5) pa_nil)))))
      (pss_one (ps_for PassesOwn.never rfl (pi_list (pe_lst (pa_cons (pv 6) (pa_cons (pe_call gP hr3 rfl mP kP bP .nil pass0 (pa_cons (pv 2) (pa_cons (pv 3) (pa_cons pe_int pa_nil)))) (pa_cons (pv 5) pa_nil))))) (pg_name (i := 7) scLaw.nd rfl (.inl rfl))
      (pss_cons (ps_par (by rfl) scLaw.nd (i := 8) (j := 9) rfl rfl (by decide) rfl rfl (pa_cons (pe_call gA hr6 rfl mA kA bA .nil pass0 (pa_cons (pv 4) (pa_cons (pv 5) pa_nil))) (pa_cons (pe_call gA hr6 rfl mA kA bA .nil pass0 (pa_cons (pv 4) (pa_cons (pv 7) pa_nil))) pa_nil)) (by rfl))
      (pss_cons (ps_set (i := 10) scLaw.nd rfl (.inl rfl) (pe_call gQ hr2 rfl mQ kQ bQ .nil pass0 (pa_cons (pv 3) (pa_cons (pv 5) (pa_cons (pv 7) pa_nil)))))
      (pss_one (ps_for PassesOwn.never rfl (pi_list (pe_op op_cat (pe_op op_cat (pe_lst (pa_cons (pv 10) pa_nil)) (pe_call gN hr3 rfl mN kN bN .nil pass0 (pa_cons (pv 2) (pa_cons (pv 10) (pa_cons (pv 5) (pa_cons (pv 7) pa_nil)))))) (pe_lst (pa_cons (pe_op op_cat (pv 10) (pv 10)) pa_nil)))) (pg_name (i := 11) scLaw.nd rfl (.inl rfl))
      (pss_cons (ps_set (i := 12) scLaw.nd rfl (.inl rfl) (pe_callTy call_list_of (by rfl) G.list (by decide +kernel) (pa_cons (pv 11) pa_nil)))
      (pss_cons (ps_set (i := 13) scLaw.nd rfl (.inl rfl) (pe_call gW hr5 rfl mW kW bW .nil passL (pa_cons (pv 8) (pa_cons (pv 9) (pa_cons (pv 11) pa_nil)))))
      (pss_one (ps_if (PW.pt (pw_or (pt_not (pt_val (pe_callB call_isi (by rfl) G.isinstance (by decide +kernel) (pa_cons (pv 13) (pa_cons (pe_bltn (v := .ty "bool") (by rfl) G.bool (by decide +kernel) rfl) pa_nil))))) (pw_or (pt_cmpR op_ne (pv 13) (pe_call gD hr2 rfl mD kD bD .nil pass0 (pa_cons (pv 3) (pa_cons (pv 5) (pa_cons (pv 7) (pa_cons (pv 12) pa_nil))))) (nomark _)) (pw_or1 (pt_cmpR (op_neD hu) (pv 11) (pv 12) (nomark _)))))) (pss_one (ps_ret pe_bl)) pss_nil))))))))))))))))
      (pss_one (ps_ret pe_bl))), ?_⟩
    have hl63 : (ns.map V.int).length ≤ 63 := by rw [List.length_map]; exact hlen
    refine ⟨_, rfl, _, _, rfl, .inl hS, _, _, rfl, _, _, rfl, _, rfl, ?_, ?_, ?_⟩
    · split <;> split <;> omega
    · split <;> split <;> omega
    have hnt : ∀ z : Int, z = (if (if (2 : Int) < ((ns.map V.int).length : Int) then 2 else ((ns.map V.int).length : Int)) > 1 then (if (2 : Int) < ((ns.map V.int).length : Int) then 2 else ((ns.map V.int).length : Int)) else 1) → z ≤ 2 := by
      intro z hz
      rw [hz]
      split <;> split <;> omega
    have hnt := hnt _ rfl
    generalize (if (if (2 : Int) < ((ns.map V.int).length : Int) then 2 else ((ns.map V.int).length : Int)) > 1 then (if (2 : Int) < ((ns.map V.int).length : Int) then 2 else ((ns.map V.int).length : Int)) else 1) = nt at hnt ⊢
    have hT0 : TabsN [(Pt, nm)] H := fun p hp => by
      rw [List.mem_singleton.mp hp]
      exact TabN.nil hPt
    refine for_range (lo := 0) (n := nt.toNat) (fun i σ' H' => ExtN H H' ∧ TabsN [(Pt, nm)] H' ∧ ∃ u1 u2 u3 u4 u5 u6 u7 u8 u9 u10 u11 u12 u13, σ' = [some (.ref a), u1, u2, u3, u4, u5, u6, u7, u8, u9, u10, u11, u12, u13])
      ⟨ExtN.refl H, hT0, _, _, _, _, _, _, _, _, _, _, _, _, _, rfl⟩ ?_ (fun σ' H' ⟨_, _, u1, u2, u3, u4, u5, u6, u7, u8, u9, u10, u11, u12, u13, e⟩ => q H')
    rintro i σ' Hi hi ⟨eN, tB, u1, u2, u3, u4, u5, u6, u7, u8, u9, u10, u11, u12, u13, rfl⟩
    -- the box, the signs, the book
    refine q_asgR ⟨_, rfl, _, rfl, a, ns, _, rfl, extn_sql eN hS, by omega, by omega, fun b H1 hb e1 hbox => ?_⟩
    refine q_asgR ⟨_, rfl, b, rfl, hbox, fun l xs S H2 gS e2 hl hxs dS => ?_⟩
    have sS := gS.toGood0.sane
    have hsg : Dt K MF H2 (.ref l) (.list (S.map sgD)) := .lst hxs (fun z => z) dS.flat
    refine q_asgR (make_book (M := MF) okF (evd_var (i := 3) rfl hsg) (valid_good gS) sS.len (fun q hq => Nat.le_trans (sS.name q hq) (by decide)) fun x H3 e3 hB => ?_)
    have hbox3 := (e2.trans e3) _ _ hbox
    have hsg3 := hsg.ex e3
    have hK := gS.kidsOk
    have hS100 : S.length ≤ 100 := sS.len
    -- one
    refine q_asgP (K := K) (M := MF) (evp_lreader (most := 4) okF (ev_var (i := 2) rfl) hbox3 (evd_var (i := 3) rfl hsg3) evd_int hK hS100 (by decide) (by decide)) fun v5 d5 H4 e4 dv5 p5 => ?_
    obtain ⟨R1, rfl, gR1, h14⟩ := p5
    have m11 := gR1.m1
    -- blown
    refine q_asgR ⟨_, rfl, _, rfl, _, rfl, b, _, v5, S, R1, rfl, e4 _ _ hbox3, hsg3.ex e4, dv5, gR1, hK, hS100, h14, fun v6 RB H5 e5 gRB hB6 dv6 => ?_⟩
    have e35 := e4.trans e5
    -- the three others
    refine s_forData (K := K) (M := MF) (σ := [some (.ref a), some (.int (0 + (i : Int))), some (.ref b), some (.ref l), some (.ref x), some v5, some v6, u7, u8, u9, u10, u11, u12, u13]) (PL := fun ds => ∃ Rs : List Pl, ds = Rs.map plD ∧ ∀ R ∈ Rs, GoodR S R ∧ R.moods ≤ 6) ((evp_lst (K := K) (M := MF) okF (evpa_cons (PA := (· = plD RB)) (evd_var (i := 6) rfl dv6) (evpa_cons (evp_lreader (most := 3) okF (ev_var (i := 2) rfl) (e35 _ _ hbox3) (evd_var (i := 3) rfl (hsg3.ex e35)) evd_int hK hS100 (by decide) (by decide)) (evpa_cons (PA := (· = plD R1)) (evd_var (i := 5) rfl (dv5.ex e5)) eva_nil))) (fun ds ⟨d1, _, h, _, d2, _, h2, _, d3, _, h3, _, h4⟩ => by rw [h, h2, h3, h4]; show 3 ≤ sizeLine; decide)).mono fun d ⟨ds, h0, d1, ds1, h1, p1, d2, ds2, h2, ⟨R2, p2, g2, m2⟩, d3, ds3, h3, p3, h4⟩ => ⟨_, h0, [RB, R2, R1], by rw [h1, h2, h3, h4, p1, p2, p3]; rfl, fun R hR => by
      rcases List.mem_cons.mp hR with rfl | hR
      · exact ⟨gRB, hB6⟩
      rcases List.mem_cons.mp hR with rfl | hR
      · exact ⟨g2, by omega⟩
      rw [List.mem_singleton.mp hR]
      exact ⟨gR1, by omega⟩⟩) fun la xl dl H6 e6 hla hxl pl => ?_
    obtain ⟨Rs, rfl, hRs⟩ := pl
    have e36 := e35.trans e6
    have hN06 : ExtN H H6 := eN.trans (exN_of (e1.trans ((e2.trans e3).trans e36)))
    have hT6 : TabsN [(Pt, nm)] H6 := tB.ext (e1.trans ((e2.trans e3).trans e36))
    have hB6' := hB.ex e36
    have hsg6 := hsg3.ex e36
    have hone6 := dv5.ex (e5.trans e6)
    have hbox6 := e36 _ _ hbox3
    refine ⟨fun j σ' H' => ExtN H6 H' ∧ TabsN [(Pt, nm)] H' ∧ ∃ u7 u8 u9 u10 u11 u12 u13, σ' = [some (.ref a), some (.int (0 + (i : Int))), some (.ref b), some (.ref l), some (.ref x), some v5, some v6, u7, u8, u9, u10, u11, u12, u13],
      ⟨ExtN.refl _, hT6, _, _, _, _, _, _, _, rfl⟩, (fun j σ' H' h => extN_lst h.1 hla), ?_, (fun σ' H' ⟨n6, t6, u7, u8, u9, u10, u11, u12, u13, e⟩ => ?_)⟩
    rotate_left
    · subst e
      exact ⟨hN06.trans n6, t6, _, _, _, _, _, _, _, _, _, _, _, _, _, rfl⟩
    rintro j y σ' H7 hy ⟨n67, t7, u7, u8, u9, u10, u11, u12, u13, rfl⟩
    obtain ⟨d, hd, dy0⟩ := hxl.get hy
    rw [List.getElem?_map] at hd
    cases hRj : Rs[j]? with
    | none =>
      rw [hRj] at hd
      cases hd
    | some R =>
    rw [hRj] at hd
    cases hd
    obtain ⟨gR, hR6⟩ := hRs R (List.mem_of_getElem? hRj)
    have dy := dy0.exN n67
    have hB7 := hB6'.exN n67
    have hsg7 := hsg6.exN n67
    have hone7 := hone6.exN n67
    have hbox7 := box_extn hbox6 n67
    -- left, right
    refine q_parR ⟨_, rfl, _, rfl, MF, x, v5, S, R1, rfl, hB7, hone7, gR1, by omega, hK, hS100, hB7, fun p H8 e8 hp => ⟨_, rfl, _, rfl, MF, x, y, S, R, rfl, hB7.ex e8, dy.ex e8, gR, hR6, hK, hS100, hB7.ex e8, fun p' H9 e9 hp' => ⟨_, _, rfl, ?_⟩⟩⟩
    have e79 := e8.trans e9
    have hmul : R1.moods * R.moods ≤ 24 := Nat.mul_le_mul h14 hR6
    -- the pairs
    refine q_asgR ⟨_, rfl, _, rfl, _, rfl, _, v5, y, S, R1, R, rfl, hsg7.ex e79, hone7.ex e79, dy.ex e79, gR1, gR, hK, hS100, by omega, good_leaf gS, fun lp refs L H10 hlp e10 hlp10 dL inv hL1 => ?_⟩
    have e710 := e79.trans e10
    have hL24 : L.length ≤ 24 := Nat.le_trans inv.le hmul
    have dps : Dt K MF H10 (.ref lp) (.list ((L.map fun p => ((p.1 : Int), (p.2 : Int))).map qD)) := by
      rw [← qD_nat]
      exact .lst hlp10 (fun z => z) (dL.weak fun a h => trivial)
    have hpl1 : 1 ≤ (L.map fun p => ((p.1 : Int), (p.2 : Int))).length := by rw [List.length_map]; exact hL1
    have hpl2 : (L.map fun p => ((p.1 : Int), (p.2 : Int))).length ≤ 24 := by rw [List.length_map]; exact hL24
    generalize (L.map fun p => ((p.1 : Int), (p.2 : Int))) = ps at dps hpl1 hpl2
    -- the lists that are shown
    refine s_forData (K := K) (M := MF) (σ := [some (.ref a), some (.int (0 + (i : Int))), some (.ref b), some (.ref l), some (.ref x), some v5, some v6, some y, some (.ref p), some (.ref p'), some (.ref lp), u11, u12, u13]) (PL := fun ds => ∀ e ∈ ds, PsP 49 e) ((evp_catB (K := K) (M := MF) okF (evp_catB okF (evp_oneB okF ((evp_ps (evd_var (i := 10) rfl dps)).mono fun d h => h.mono (by omega))) (evp_bent3 (ev_var (i := 2) rfl) (e710 _ _ hbox7) (evd_var (i := 10) rfl dps) (evd_var (i := 5) rfl (hone7.ex e710)) (evd_var (i := 7) rfl (dy.ex e710)) gR1 gR h14 hR6 hpl1 hpl2) (by decide) (by decide))
      (evp_oneB okF ((evp_catP okF (evp_ps (evd_var (i := 10) rfl dps)) (evp_ps (evd_var (i := 10) rfl dps)) (by omega) (by omega)).mono fun d h => h.mono (by omega))) (by decide) (by decide)).mono fun d ⟨ds, h1, h2, _⟩ => ⟨ds, h1, h2⟩) fun lb xb bs H11 e11 hlb hxb hbs => ?_
    have e711 := e710.trans e11
    have hT11 : TabsN [(Pt, nm)] H11 := t7.ext e711
    have hp11 := hp.ex (e9.trans (e10.trans e11))
    have hp'11 := hp'.ex (e10.trans e11)
    have hsg11 := hsg7.ex e711
    have hone11 := hone7.ex e711
    have dy11 := dy.ex e711
    refine ⟨fun k σ' H' => ExtN H11 H' ∧ TabsN [(Pt, nm)] H' ∧ ∃ u11 u12 u13, σ' = [some (.ref a), some (.int (0 + (i : Int))), some (.ref b), some (.ref l), some (.ref x), some v5, some v6, some y, some (.ref p), some (.ref p'), some (.ref lp), u11, u12, u13],
      ⟨ExtN.refl _, hT11, _, _, _, rfl⟩, (fun k σ' H' h => extN_lst h.1 hlb), ?_, (fun σ' H' ⟨n6, t6, u11, u12, u13, e⟩ => ?_)⟩
    rotate_left
    · subst e
      exact ⟨n67.trans ((exN_of e711).trans n6), t6, _, _, _, _, _, _, _, rfl⟩
    rintro k z σ' H12 hz ⟨n12, t12, u11, u12, u13, rfl⟩
    obtain ⟨d, hd, dz0⟩ := hxb.get hz
    obtain ⟨qs, rfl, hqs⟩ := hbs d (List.mem_of_getElem? hd)
    have dz := dz0.exN n12
    -- kept = list(some)
    refine q_asgP (K := K) (M := MF) (P := (· = .list (qs.map qD))) (evd_listOf okF (eva_cons (evd_var (i := 11) rfl dz) eva_nil)) fun vk dk H13 e13 dvk pk => ?_
    subst pk
    -- shows
    refine q_asgR ⟨_, rfl, _, rfl, _, rfl, p, p', z, S, S, R1, R, qs, rfl, (hp11.exN n12).ex e13, (hp'11.exN n12).ex e13, gR1, gR, hK, sS.ok, sS.ok, hS100, dz.ex e13, by omega, t12.ext e13, fun _ bb H14 n14 _ t14 hbb => ?_, fun h => by rw [likeB_self] at h; cases h⟩
    have n114 : ExtN H11 H14 := n12.trans ((exN_of e13).trans n14)
    have hkv := dvk.exN n14
    have hzv := (dz.ex e13).exN n14
    refine s_whenP (PB := (· = false)) (σ := [some (.ref a), some (.int (0 + (i : Int))), some (.ref b), some (.ref l), some (.ref x), some v5, some v6, some y, some (.ref p), some (.ref p'), some (.ref lp), some z, some vk, some (.bl bb)]) (evtp_of (et_or (a := false) (b := false) (evt_not (evt_isBool (i := 13) rfl rfl)) fun _ => et_or (a := false) (b := false) (et_is (evt_test (K := K) (M := MF) (evd_neB (evd_var (i := 13) rfl (.bl bb)) (evd_due (bb := bb) (evd_var (i := 3) rfl (hsg11.exN n114)) (evd_var (i := 5) rfl (hone11.exN n114)) (evd_var (i := 7) rfl (dy11.exN n114)) (evd_var (i := 12) rfl hkv) gR1 gR hK hS100 (by omega) (by omega) hbb))) (by simp))
      fun _ => et_is (evt_test (K := K) (M := MF) (evd_neD (n := 2) (m := 2) (evd_var (i := 11) rfl hzv) (evd_var (i := 12) rfl hkv) (flat_ps _) (flat_ps _))) (by rw [(flat_ps _).self]; rfl))) (fun hb H15 e15 => nomatch hb) (fun hb H15 e15 => ?_)
    exact ⟨n114.trans (exN_of e15), t14.ext e15, _, _, _, rfl⟩
end
end TH
set_option maxRecDepth 100000
set_option maxHeartbeats 4000000
namespace TH
open PySem L2 Evl LamX
/-! ### what the top has written: each a fact that k_is finds -/
def DefG (K : PySem.W.Frag) (x : Str) (st : Stmt) : Prop := ∃ (f : Addr) (fd : FuncData), PySem.W.nsIn K mainGlobals x = some (some (.ref f)) ∧ Fun K x x st f fd
def MethG (K : PySem.W.Frag) (C : Addr) (m q : Str) (st : Stmt) : Prop := ∃ (f : Addr) (fd : FuncData), Meth K C m f ∧ Fun K m q st f fd
/-- a method that is read as a value -/
def BMethG (K : PySem.W.Frag) (C : Addr) (m q : Str) (st : Stmt) : Prop := ∃ (f : Addr) (fd : FuncData), BMeth K C m f ∧ Fun K m q st f fd
section
variable {K : PySem.W.Frag} {x q : Str} {st : Stmt} {f C : Addr} {oc : Value} {od an : Option Addr} {osl : Array (Option Value)} {kV doc pm cdv ct : Value}
theorem defG_mk (a : PySem.W.nsIn K mainGlobals x = some (some (.ref f))) (l : K.lookup f = some ⟨oc, od, .func (PySem.W.fnOf x x (defArgs st) (defBody st) (defScope st) .none kV doc pm an cdv ct), osl⟩)
    (c : PySem.W.codeIn K cdv x = true) (k : PySem.W.keepIn K (.ref f) = true) : DefG K x st := ⟨f, _, a, fun_mk l c k⟩
theorem methG_mk {m : Str} (a : PySem.W.findIn K (.ref C) m = some (some (.ref f))) (i : PySem.W.isFn K (.ref f) = true) (l : K.lookup f = some ⟨oc, od, .func (PySem.W.fnOf m q (defArgs st) (defBody st) (defScope st) .none kV doc pm an cdv ct), osl⟩)
    (c : PySem.W.codeIn K cdv q = true) (k : PySem.W.keepIn K (.ref f) = true) : MethG K C m q st := ⟨f, _, ⟨a, i, k⟩, fun_mk l c k⟩
theorem bmethG_mk {m : Str} (a : PySem.W.findIn K (.ref C) m = some (some (.ref f))) (i : PySem.W.isFn K (.ref f) = true) (l : K.lookup f = some ⟨oc, od, .func (PySem.W.fnOf m q (defArgs st) (defBody st) (defScope st) .none kV doc pm an cdv ct), osl⟩)
    (c : PySem.W.codeIn K cdv q = true) (k : PySem.W.keepIn K (.ref f) = true) (gf : PySem.W.specialIn K (.ref f) "__get__" = some (some (.builtin "function.__get__"))) (tk : PySem.W.takesIn K (.ref f) = some false) (cp : PySem.W.copiedNames.contains m = false) (fi : PySem.W.fnIn K f = true) : BMethG K C m q st := ⟨f, _, ⟨⟨a, i, k⟩, gf, tk, cp, fi⟩, fun_mk l c k⟩
end
/-- what the names of the built-ins stand for -/
structure NoneG (K : PySem.W.Frag) : Prop where
  n_range : PySem.W.nsIn K mainGlobals "range" = some none
  n_len : PySem.W.nsIn K mainGlobals "len" = some none
  n_abs : PySem.W.nsIn K mainGlobals "abs" = some none
  n_divmod : PySem.W.nsIn K mainGlobals "divmod" = some none
  n_all : PySem.W.nsIn K mainGlobals "all" = some none
  n_any : PySem.W.nsIn K mainGlobals "any" = some none
  n_enumerate : PySem.W.nsIn K mainGlobals "enumerate" = some none
  n_min : PySem.W.nsIn K mainGlobals "min" = some none
  n_max : PySem.W.nsIn K mainGlobals "max" = some none
  n_list : PySem.W.nsIn K mainGlobals "list" = some none
  n_bool : PySem.W.nsIn K mainGlobals "bool" = some none
  n_isinstance : PySem.W.nsIn K mainGlobals "isinstance" = some none
  n_tuple : PySem.W.nsIn K mainGlobals "tuple" = some none
  n_sorted : PySem.W.nsIn K mainGlobals "sorted" = some none
  n_set : PySem.W.nsIn K mainGlobals "set" = some none
/-- the class Book -/
structure BookG (K : PySem.W.Frag) (C : Addr) : Prop where
  a : PySem.W.nsIn K mainGlobals "Book" = some (some (.ref C))
  pg : PySem.W.plainGet K C Str.empty = true
  hd : PySem.W.hasDictIn K C = true
  po : PySem.W.plainOver K C = true
  sa : PySem.W.findIn K (.ref C) "__setattr__" = some (some (.builtin "object.__setattr__"))
  made : PySem.W.makesIn K C = true
  kc : PySem.W.keepIn K (.ref C) = true
  n1 : PySem.W.findIn K (.ref C) "_names" = some none
  n2 : PySem.W.findIn K (.ref C) "_kids" = some none
/-- the class Reader -/
structure ReaderG (K : PySem.W.Frag) (C : Addr) : Prop where
  a : PySem.W.nsIn K mainGlobals "Reader" = some (some (.ref C))
  pg : PySem.W.plainGet K C Str.empty = true
  hd : PySem.W.hasDictIn K C = true
  po : PySem.W.plainOver K C = true
  sa : PySem.W.findIn K (.ref C) "__setattr__" = some (some (.builtin "object.__setattr__"))
  made : PySem.W.makesIn K C = true
  kc : PySem.W.keepIn K (.ref C) = true
  n1 : PySem.W.findIn K (.ref C) "_book" = some none
  n2 : PySem.W.findIn K (.ref C) "_moods" = some none
  n3 : PySem.W.findIn K (.ref C) "_tables" = some none
  n4 : PySem.W.findIn K (.ref C) "_liked" = some none
/-- a class of refusals that is raised -/
structure RaiseG (K : PySem.W.Frag) (C : Addr) : Prop where
  x : PySem.W.excIn K C [.type "ValueError", .type "Exception", .type "BaseException", .type "object"] "ValueError.__new__" = true
  k : PySem.W.keepIn K (.ref C) = true
  b : PySem.W.subIn K (.ref C) (.type "BaseException") = some true
  t : PySem.W.typeIn K (.ref C) = some (.type "type")
theorem all_mk {l : PySem.W.OpenLaw} {w : World} {K : PySem.W.Frag} {h : Heap} {mg : Str → Option Value} {fa CB CR fL : Addr} (X : K.In h) (G : h.Ns mainGlobals mg) (hfa : mg "law" = some (.ref fa))
    {oc : Value} {od an : Option Addr} {osl : Array (Option Value)} {kV doc pm cdL ct : Value} {t1 t2 t3 t4 : Tok} {D1 D3 D4 : Addr}
    (NG : NoneG K)
    (CG_Book : BookG K CB)
    (CG_Reader : ReaderG K CR)
    (a_NoBook : PySem.W.nsIn K mainGlobals "NoBook" = some (some (.ref D1))) (RG_NoBook : RaiseG K D1)
    (a_NoReader : PySem.W.nsIn K mainGlobals "NoReader" = some (some (.ref D3))) (RG_NoReader : RaiseG K D3)
    (a_Unlike : PySem.W.nsIn K mainGlobals "Unlike" = some (some (.ref D4))) (RG_Unlike : RaiseG K D4)
    (D_is_name : DefG K "is_name" sName)
    (D_is_sign : DefG K "is_sign" sSign)
    (D_are_signs : DefG K "are_signs" sAre)
    (D_place_in_table : DefG K "place_in_table" sPlace)
    (D_table_size : DefG K "table_size" sTabSize)
    (D_is_table : DefG K "is_table" sIsTable)
    (D_are_tables : DefG K "are_tables" sAreTabs)
    (D_are_liked : DefG K "are_liked" sAreLiked)
    (D_picks : DefG K "picks" sPicks)
    (D_choices : DefG K "choices" sChoices)
    (D_is_closed : DefG K "is_closed" sClosed)
    (D_check_alike : DefG K "check_alike" sAlike)
    (D_is_fair : DefG K "is_fair" sFair)
    (D_is_pair : DefG K "is_pair" sIsPair)
    (D_shows : DefG K "shows" sShows)
    (D__law_box : DefG K "_law_box" sBox)
    (D__law_more : DefG K "_law_more" sMore)
    (D__law_take : DefG K "_law_take" sTake)
    (D__law_signs : DefG K "_law_signs" sSigns)
    (D__law_reader : DefG K "_law_reader" sLReader)
    (D__law_made : DefG K "_law_made" sLMade)
    (D__law_led : DefG K "_law_led" sLLed)
    (D__law_choices : DefG K "_law_choices" sLChG)
    (D__law_blown : DefG K "_law_blown" sBlown)
    (D__law_pairs : DefG K "_law_pairs" sLPairs)
    (D__law_due : DefG K "_law_due" sLDue)
    (D__law_bent : DefG K "_law_bent" sBent3)
    (M_Book___init__ : MethG K CB "__init__" "Book.__init__" sInit)
    (M_Book_many : MethG K CB "many" "Book.many" sMany)
    (M_Book_kids : MethG K CB "kids" "Book.kids" sKd)
    (M_Book_is_like : MethG K CB "is_like" "Book.is_like" sLike)
    (M_Reader___init__ : MethG K CR "__init__" "Reader.__init__" sRInit)
    (M_Reader__keep : MethG K CR "_keep" "Reader._keep" sRKeep)
    (M_Reader_book : MethG K CR "book" "Reader.book" sRBook)
    (M_Reader_moods : MethG K CR "moods" "Reader.moods" sRMoods)
    (M_Reader_liked : MethG K CR "liked" "Reader.liked" sRLiked)
    (M_Reader_lead : MethG K CR "lead" "Reader.lead" sRLead)
    (k1 : PySem.W.nsIn K mainGlobals "LONGEST_NAME" = some (some (.int 3 t1)))
    (k2 : PySem.W.nsIn K mainGlobals "MOST_SIGNS_signs" = some (some (.int 6 t2)))
    (k3 : PySem.W.nsIn K mainGlobals "MOST_KIDS" = some (some (.int 2 t3)))
    (k4 : PySem.W.nsIn K mainGlobals "MOST_MOODS" = some (some (.int 6 t4)))
    {fP cP Pt : Addr} {ocP : Value} {odP anP : Option Addr} {oslP : Array (Option Value)} {kVP docP pmP ctP : Value}
    (aP : PySem.W.nsIn K mainGlobals "paired" = some (some (.ref fP))) (lkP : K.lookup fP = some ⟨ocP, odP, .func (PySem.W.fnOf "paired" "paired" (defArgs sPaired) (defBody sPaired) (defScope sPaired) .none kVP docP pmP anP (.ref cP) ctP), oslP⟩)
    (hcP : PySem.W.codeIn K (.ref cP) "paired" = true) (kP : PySem.W.keepIn K (.ref fP) = true) (hT : h.get? Pt = some { cls := .none, data := .fields #[] }) (nT : K.lookup Pt = none) (hC : PySem.W.CodeHd h cP Pt)
    (aL : PySem.W.nsIn K mainGlobals "law" = some (some (.ref fL))) (lk : K.lookup fL = some ⟨oc, od, .func (PySem.W.fnOf "law" "law" (defArgs sLaw) (defBody sLaw) (defScope sLaw) .none kV doc pm an cdL ct), osl⟩)
    (hcd : PySem.W.codeIn K cdL "law" = true) (kL : PySem.W.keepIn K (.ref fL) = true) :
    LawAtS l w K CX0 8 63 "_law_script" mg fa h := by
  have e := hfa.symm.trans (PySem.W.mg_of X G aL)
  cases e
  have gn : ∀ {x : Str}, PySem.W.nsIn K mainGlobals x = some none → mg x = none := fun z => PySem.W.mg_none_of X G z
  have gs : ∀ {x : Str} {v : Value}, PySem.W.nsIn K mainGlobals x = some (some v) → mg x = some v := fun z => PySem.W.mg_of X G z
  have GS : GlobS mg := { range := gn NG.n_range, len := gn NG.n_len, abs := gn NG.n_abs, divmod := gn NG.n_divmod, all := gn NG.n_all, any := gn NG.n_any, longest := ⟨_, gs k1⟩, most := ⟨_, gs k2⟩, mostK := ⟨_, gs k3⟩, enumerate := gn NG.n_enumerate }
  have GL : GlobL mg := { GS with min := gn NG.n_min }
  have GW : GlobV mg := { GL with max := gn NG.n_max, list := gn NG.n_list, isinstance := gn NG.n_isinstance, bool := gn NG.n_bool }
  have GU : GlobU mg := { tuple := gn NG.n_tuple }
  have GY : GlobY mg := { list := gn NG.n_list }
  have GZ : GlobZ mg := { sorted := gn NG.n_sorted, set := gn NG.n_set }
  have GM : GlobM mg := { most := ⟨_, gs k4⟩ }
  have T : BookT K mg CB := ⟨⟨CG_Book.pg, CG_Book.hd, CG_Book.po, CG_Book.sa⟩, CG_Book.n1, CG_Book.n2, gs CG_Book.a⟩
  have TR : ReadT K mg CR := ⟨⟨CG_Reader.pg, CG_Reader.hd, CG_Reader.po, CG_Reader.sa⟩, CG_Reader.n1, CG_Reader.n2, CG_Reader.n3, CG_Reader.n4, gs CG_Reader.a⟩
  have X_NoBook : ExcT K mg "NoBook" D1 := ⟨gs a_NoBook, RG_NoBook.x, RG_NoBook.k, RG_NoBook.b, RG_NoBook.t⟩
  have X_NoReader : ExcT K mg "NoReader" D3 := ⟨gs a_NoReader, RG_NoReader.x, RG_NoReader.k, RG_NoReader.b, RG_NoReader.t⟩
  have X_Unlike : ExcT K mg "Unlike" D4 := ⟨gs a_Unlike, RG_Unlike.x, RG_Unlike.k, RG_Unlike.b, RG_Unlike.t⟩
  obtain ⟨f_is_name, d_is_name, a_is_name, F_is_name⟩ := D_is_name
  have b_is_name := F_is_name.binds (ps := ["name", "longest"]) fun _ _ _ _ _ _ us hl => match us, hl with | [_, _], _ => rfl
  obtain ⟨f_is_sign, d_is_sign, a_is_sign, F_is_sign⟩ := D_is_sign
  have b_is_sign := F_is_sign.binds (ps := ["sign"]) fun _ _ _ _ _ _ us hl => match us, hl with | [_], _ => rfl
  obtain ⟨f_are_signs, d_are_signs, a_are_signs, F_are_signs⟩ := D_are_signs
  have b_are_signs := F_are_signs.binds (ps := ["signs"]) fun _ _ _ _ _ _ us hl => match us, hl with | [_], _ => rfl
  obtain ⟨f_place_in_table, d_place_in_table, a_place_in_table, F_place_in_table⟩ := D_place_in_table
  have b_place_in_table := F_place_in_table.binds (ps := ["moods", "kids"]) fun _ _ _ _ _ _ us hl => match us, hl with | [_, _], _ => rfl
  obtain ⟨f_table_size, d_table_size, a_table_size, F_table_size⟩ := D_table_size
  have b_table_size := F_table_size.binds (ps := ["moods", "kids"]) fun _ _ _ _ _ _ us hl => match us, hl with | [_, _], _ => rfl
  obtain ⟨f_is_table, d_is_table, a_is_table, F_is_table⟩ := D_is_table
  have b_is_table := F_is_table.binds (ps := ["table", "moods", "kids"]) fun _ _ _ _ _ _ us hl => match us, hl with | [_, _, _], _ => rfl
  obtain ⟨f_are_tables, d_are_tables, a_are_tables, F_are_tables⟩ := D_are_tables
  have b_are_tables := F_are_tables.binds (ps := ["book", "moods", "tables"]) fun _ _ _ _ _ _ us hl => match us, hl with | [_, _, _], _ => rfl
  obtain ⟨f_are_liked, d_are_liked, a_are_liked, F_are_liked⟩ := D_are_liked
  have b_are_liked := F_are_liked.binds (ps := ["liked", "moods"]) fun _ _ _ _ _ _ us hl => match us, hl with | [_, _], _ => rfl
  obtain ⟨f_picks, d_picks, a_picks, F_picks⟩ := D_picks
  have b_picks := F_picks.binds (ps := ["lists"]) fun _ _ _ _ _ _ us hl => match us, hl with | [_], _ => rfl
  obtain ⟨f_choices, d_choices, a_choices, F_choices⟩ := D_choices
  have b_choices := F_choices.binds (ps := ["things", "kids"]) fun _ _ _ _ _ _ us hl => match us, hl with | [_, _], _ => rfl
  obtain ⟨f_is_closed, d_is_closed, a_is_closed, F_is_closed⟩ := D_is_closed
  have b_is_closed := F_is_closed.binds (ps := ["book", "lead", "states"]) fun _ _ _ _ _ _ us hl => match us, hl with | [_, _, _], _ => rfl
  obtain ⟨f_check_alike, d_check_alike, a_check_alike, F_check_alike⟩ := D_check_alike
  have b_check_alike := F_check_alike.binds (ps := ["one", "other"]) fun _ _ _ _ _ _ us hl => match us, hl with | [_, _], _ => rfl
  obtain ⟨f_is_fair, d_is_fair, a_is_fair, F_is_fair⟩ := D_is_fair
  have b_is_fair := F_is_fair.binds (ps := ["one", "other", "pair"]) fun _ _ _ _ _ _ us hl => match us, hl with | [_, _, _], _ => rfl
  obtain ⟨f_is_pair, d_is_pair, a_is_pair, F_is_pair⟩ := D_is_pair
  have b_is_pair := F_is_pair.binds (ps := ["one", "other", "pair"]) fun _ _ _ _ _ _ us hl => match us, hl with | [_, _, _], _ => rfl
  obtain ⟨f_shows, d_shows, a_shows, F_shows⟩ := D_shows
  have b_shows := F_shows.binds (ps := ["one", "other", "pairs"]) fun _ _ _ _ _ _ us hl => match us, hl with | [_, _, _], _ => rfl
  obtain ⟨f__law_box, d__law_box, a__law_box, F__law_box⟩ := D__law_box
  have b__law_box := F__law_box.binds (ps := ["_law_script", "_law_k"]) fun _ _ _ _ _ _ us hl => match us, hl with | [_, _], _ => rfl
  obtain ⟨f__law_more, d__law_more, a__law_more, F__law_more⟩ := D__law_more
  have b__law_more := F__law_more.binds (ps := ["_law_box_here"]) fun _ _ _ _ _ _ us hl => match us, hl with | [_], _ => rfl
  obtain ⟨f__law_take, d__law_take, a__law_take, F__law_take⟩ := D__law_take
  have b__law_take := F__law_take.binds (ps := ["_law_box_here", "_law_count"]) fun _ _ _ _ _ _ us hl => match us, hl with | [_, _], _ => rfl
  obtain ⟨f__law_signs, d__law_signs, a__law_signs, F__law_signs⟩ := D__law_signs
  have b__law_signs := F__law_signs.binds (ps := ["_law_box_here"]) fun _ _ _ _ _ _ us hl => match us, hl with | [_], _ => rfl
  obtain ⟨f__law_reader, d__law_reader, a__law_reader, F__law_reader⟩ := D__law_reader
  have b__law_reader := F__law_reader.binds (ps := ["_law_box_here", "_law_signs_here", "_law_most"]) fun _ _ _ _ _ _ us hl => match us, hl with | [_, _, _], _ => rfl
  obtain ⟨f__law_made, d__law_made, a__law_made, F__law_made⟩ := D__law_made
  have b__law_made := F__law_made.binds (ps := ["_law_book", "_law_plain"]) fun _ _ _ _ _ _ us hl => match us, hl with | [_, _], _ => rfl
  obtain ⟨f__law_led, d__law_led, a__law_led, F__law_led⟩ := D__law_led
  have b__law_led := F__law_led.binds (ps := ["_law_plain", "_law_sign", "_law_kids"]) fun _ _ _ _ _ _ us hl => match us, hl with | [_, _, _], _ => rfl
  obtain ⟨f__law_choices, d__law_choices, a__law_choices, F__law_choices⟩ := D__law_choices
  have b__law_choices := F__law_choices.binds (ps := ["_law_things", "_law_count"]) fun _ _ _ _ _ _ us hl => match us, hl with | [_, _], _ => rfl
  obtain ⟨f__law_blown, d__law_blown, a__law_blown, F__law_blown⟩ := D__law_blown
  have b__law_blown := F__law_blown.binds (ps := ["_law_box_here", "_law_signs_here", "_law_plain"]) fun _ _ _ _ _ _ us hl => match us, hl with | [_, _, _], _ => rfl
  obtain ⟨f__law_pairs, d__law_pairs, a__law_pairs, F__law_pairs⟩ := D__law_pairs
  have b__law_pairs := F__law_pairs.binds (ps := ["_law_signs_here", "_law_one", "_law_other"]) fun _ _ _ _ _ _ us hl => match us, hl with | [_, _, _], _ => rfl
  obtain ⟨f__law_due, d__law_due, a__law_due, F__law_due⟩ := D__law_due
  have b__law_due := F__law_due.binds (ps := ["_law_signs_here", "_law_one", "_law_other", "_law_pairs_here"]) fun _ _ _ _ _ _ us hl => match us, hl with | [_, _, _, _], _ => rfl
  obtain ⟨f__law_bent, d__law_bent, a__law_bent, F__law_bent⟩ := D__law_bent
  have b__law_bent := F__law_bent.binds (ps := ["_law_box_here", "_law_pairs_here", "_law_one", "_law_other"]) fun _ _ _ _ _ _ us hl => match us, hl with | [_, _, _, _], _ => rfl
  obtain ⟨f_Book___init__, d_Book___init__, m_Book___init__, F_Book___init__⟩ := M_Book___init__
  have b_Book___init__ := F_Book___init__.binds (ps := ["self", "signs"]) fun _ _ _ _ _ _ us hl => match us, hl with | [_, _], _ => rfl
  obtain ⟨f_Book_many, d_Book_many, m_Book_many, F_Book_many⟩ := M_Book_many
  have b_Book_many := F_Book_many.binds (ps := ["self"]) fun _ _ _ _ _ _ us hl => match us, hl with | [_], _ => rfl
  obtain ⟨f_Book_kids, d_Book_kids, m_Book_kids, F_Book_kids⟩ := M_Book_kids
  have b_Book_kids := F_Book_kids.binds (ps := ["self", "sign"]) fun _ _ _ _ _ _ us hl => match us, hl with | [_, _], _ => rfl
  obtain ⟨f_Book_is_like, d_Book_is_like, m_Book_is_like, F_Book_is_like⟩ := M_Book_is_like
  have b_Book_is_like := F_Book_is_like.binds (ps := ["self", "book"]) fun _ _ _ _ _ _ us hl => match us, hl with | [_, _], _ => rfl
  obtain ⟨f_Reader___init__, d_Reader___init__, m_Reader___init__, F_Reader___init__⟩ := M_Reader___init__
  have b_Reader___init__ := F_Reader___init__.binds (ps := ["self", "book", "moods", "tables", "liked"]) fun _ _ _ _ _ _ us hl => match us, hl with | [_, _, _, _, _], _ => rfl
  obtain ⟨f_Reader__keep, d_Reader__keep, m_Reader__keep, F_Reader__keep⟩ := M_Reader__keep
  have b_Reader__keep := F_Reader__keep.binds (ps := ["self", "book", "moods", "tables", "liked"]) fun _ _ _ _ _ _ us hl => match us, hl with | [_, _, _, _, _], _ => rfl
  obtain ⟨f_Reader_book, d_Reader_book, m_Reader_book, F_Reader_book⟩ := M_Reader_book
  have b_Reader_book := F_Reader_book.binds (ps := ["self"]) fun _ _ _ _ _ _ us hl => match us, hl with | [_], _ => rfl
  obtain ⟨f_Reader_moods, d_Reader_moods, m_Reader_moods, F_Reader_moods⟩ := M_Reader_moods
  have b_Reader_moods := F_Reader_moods.binds (ps := ["self"]) fun _ _ _ _ _ _ us hl => match us, hl with | [_], _ => rfl
  obtain ⟨f_Reader_liked, d_Reader_liked, m_Reader_liked, F_Reader_liked⟩ := M_Reader_liked
  have b_Reader_liked := F_Reader_liked.binds (ps := ["self"]) fun _ _ _ _ _ _ us hl => match us, hl with | [_], _ => rfl
  obtain ⟨f_Reader_lead, d_Reader_lead, m_Reader_lead, F_Reader_lead⟩ := M_Reader_lead
  have b_Reader_lead := F_Reader_lead.binds (ps := ["self", "sign", "kids"]) fun _ _ _ _ _ _ us hl => match us, hl with | [_, _, _], _ => rfl
  have bL : ∀ (s : Shared) (u : Value), BindsTo s (PySem.W.fnOf "law" "law" (defArgs sLaw) (defBody sLaw) (defScope sLaw) .none kV doc pm an cdL ct) ⟨[u], []⟩ [("_law_script", u)] := fun s v => .of_eq rfl
  refine ⟨_, [(cP, Pt)], spLaw K Pt, fun p hp => ?_, fun p hp => ?_, fun p hp => ?_, bL, fun H a ns hl _ hP hS => ⟨a, ns, rfl, hS, hl, hP (cP, Pt) List.mem_cons_self, fun _ => rfl⟩, fun base KB GBs TB => ?_⟩
  · rw [List.mem_singleton.mp hp]
    exact hT
  · rw [List.mem_singleton.mp hp]
    exact nT
  · rw [List.mem_singleton.mp hp]
    exact hC
  have TB1 : TabB base mg cP Pt := TB (cP, Pt) List.mem_cons_self
  have bP : Binds K (PySem.W.fnOf "paired" "paired" (defArgs sPaired) (defBody sPaired) (defScope sPaired) .none kVP docP pmP anP (.ref cP) ctP) ["one", "other"] [] :=
    (fun_mk (st := sPaired) lkP hcP kP).binds (ps := ["one", "other"]) fun _ _ _ _ _ _ us hl => match us, hl with | [_, _], _ => rfl
  have BK : BookK l.prog w K mg base CB := ⟨T, ⟨_, _, m_Book_many, ok_many F_Book_many GS T, b_Book_many⟩, ⟨_, _, m_Book_kids, ok_kd F_Book_kids T, b_Book_kids⟩⟩
  have GX : OneF l.prog w K mg base "_law_box" 1 ["_law_script", "_law_k"] (spBox K) := ⟨_, _, gs a__law_box, F__law_box.kp, ok_box F__law_box GS.toGlob, b__law_box⟩
  have OT : OneF l.prog w K mg base "_law_take" 2 ["_law_box_here", "_law_count"] spTake := ⟨_, _, gs a__law_take, F__law_take.kp, ok_take F__law_take GS.toGlob F__law_more (gs a__law_more) b__law_more, b__law_take⟩
  obtain ⟨fT, dT, mT, kT, gT, bT⟩ := id OT
  have OS : OneF l.prog w K mg base "_law_signs" 3 ["_law_box_here"] (spSigns K) := ⟨_, _, gs a__law_signs, F__law_signs.kp, ok_signs F__law_signs GL gT kT mT bT, b__law_signs⟩
  have OP : OneF l.prog w K mg base "_law_reader" 3 ["_law_box_here", "_law_signs_here", "_law_most"] (spLReader K) := ⟨_, _, gs a__law_reader, F__law_reader.kp, ok_lreader F__law_reader GS.toGlob OT, b__law_reader⟩
  have OLL : OneF l.prog w K mg base "_law_led" 1 ["_law_plain", "_law_sign", "_law_kids"] (spLLedL K) := ⟨_, _, gs a__law_led, F__law_led.kp, ok_lledL F__law_led, b__law_led⟩
  have OC : OneF l.prog w K mg base "_law_choices" 1 ["_law_things", "_law_count"] (spLChG K) := ⟨_, _, gs a__law_choices, F__law_choices.kp, ok_lchg F__law_choices GS.toGlob, b__law_choices⟩
  have OB : OneF l.prog w K mg base "_law_blown" 3 ["_law_box_here", "_law_signs_here", "_law_plain"] (spBlown K) := ⟨_, _, gs a__law_blown, F__law_blown.kp, ok_blown F__law_blown GS GY OT OC OLL, b__law_blown⟩
  have OQ : OneF l.prog w K mg base "_law_pairs" 2 ["_law_signs_here", "_law_one", "_law_other"] (spLPairs K) := ⟨_, _, gs a__law_pairs, F__law_pairs.kp, ok_lpairs F__law_pairs GS.toGlob GZ OC OLL, b__law_pairs⟩
  have OD : OneF l.prog w K mg base "_law_due" 2 ["_law_signs_here", "_law_one", "_law_other", "_law_pairs_here"] (spLDue K) := ⟨_, _, gs a__law_due, F__law_due.kp, ok_ldue F__law_due GS.toGlob GZ OC OLL, b__law_due⟩
  have ON : OneF l.prog w K mg base "_law_bent" 3 ["_law_box_here", "_law_pairs_here", "_law_one", "_law_other"] (spBent3 K) := ⟨_, _, gs a__law_bent, F__law_bent.kp, ok_bent3 F__law_bent GL GY OT OC, b__law_bent⟩
  have P1 : OneF l.prog w K mg base "place_in_table" 1 ["moods", "kids"] (spPlace K) := ⟨_, _, gs a_place_in_table, F_place_in_table.kp, ok_place F_place_in_table, b_place_in_table⟩
  have P2 : OneF l.prog w K mg base "table_size" 1 ["moods", "kids"] spTabSize := ⟨_, _, gs a_table_size, F_table_size.kp, ok_tabsize F_table_size GS.toGlob, b_table_size⟩
  have P3 : OneF l.prog w K mg base "is_table" 2 ["table", "moods", "kids"] (spIsTable K) := ⟨_, _, gs a_is_table, F_is_table.kp, ok_istable F_is_table GS P2, b_is_table⟩
  have P4 : OneF l.prog w K mg base "are_tables" 3 ["book", "moods", "tables"] (spAreTabs K CB) := ⟨_, _, gs a_are_tables, F_are_tables.kp, ok_aretabs F_are_tables GS BK P3, b_are_tables⟩
  have P5 : OneF l.prog w K mg base "are_liked" 1 ["liked", "moods"] (spAreLiked K) := ⟨_, _, gs a_are_liked, F_are_liked.kp, ok_areliked F_are_liked, b_are_liked⟩
  have K1 : OneM l.prog w K mg base CR "_keep" 1 ["self", "book", "moods", "tables", "liked"] (spRKeep K CR) := ⟨_, _, m_Reader__keep, ok_rkeep F_Reader__keep GY TR, b_Reader__keep⟩
  have K2 : OneM l.prog w K mg base CR "book" 1 ["self"] (spRBook K CB CR) := ⟨_, _, m_Reader_book, ok_rbook F_Reader_book TR, b_Reader_book⟩
  have K3 : OneM l.prog w K mg base CR "moods" 1 ["self"] (spRMoods K CB CR) := ⟨_, _, m_Reader_moods, ok_rmoods F_Reader_moods TR, b_Reader_moods⟩
  have K5 : OneM l.prog w K mg base CR "liked" 1 ["self"] (spRLiked K CB CR) := ⟨_, _, m_Reader_liked, ok_rliked F_Reader_liked GY TR, b_Reader_liked⟩
  have K6 : OneM l.prog w K mg base CR "lead" 2 ["self", "sign", "kids"] (spRLead K CB CR) := ⟨_, _, m_Reader_lead, ok_rlead F_Reader_lead TR P1, b_Reader_lead⟩
  have K8 : OneM l.prog w K mg base CB "is_like" 1 ["self", "book"] (spLike CB) := ⟨_, _, m_Book_is_like, ok_like F_Book_is_like T, b_Book_is_like⟩
  have Q1 : OneF l.prog w K mg base "picks" 1 ["lists"] (spPicks K) := ⟨_, _, gs a_picks, F_picks.kp, ok_picks F_picks, b_picks⟩
  have Q2 : OneF l.prog w K mg base "choices" 2 ["things", "kids"] (spChoices K) := ⟨_, _, gs a_choices, F_choices.kp, ok_choices F_choices Q1, b_choices⟩
  have Q3 : Cal l.prog w K mg base 3 (spClo FPL ["one", "other"] (spPLead K CB CR)) := cal_clo fun f F hF => nok_plead GU TR K6 f F hF
  have Q4 : OneF l.prog w K mg base "is_closed" 4 ["book", "lead", "states"] (spClosed K CB (spClo FPL ["one", "other"] (spPLead K CB CR))) := ⟨_, _, gs a_is_closed, F_is_closed.kp, ok_closed F_is_closed GS.toGlob GY BK Q2 Q3, b_is_closed⟩
  have Q5 : OneX l.prog w K mg base "check_alike" 2 ["one", "other"] (spAlike K CB CR D4) := ⟨_, _, gs a_check_alike, F_check_alike.kp, ok_alike F_check_alike X_Unlike T TR K2 K8, b_check_alike⟩
  have Q6 : OneF l.prog w K mg base "is_fair" 2 ["one", "other", "pair"] (spPairs K CB CR fairB) := ⟨_, _, gs a_is_fair, F_is_fair.kp, ok_fair F_is_fair TR K5, b_is_fair⟩
  have Q7 : OneF l.prog w K mg base "is_pair" 2 ["one", "other", "pair"] (spPairs K CB CR pairB) := ⟨_, _, gs a_is_pair, F_is_pair.kp, ok_ispair F_is_pair TR K3, b_is_pair⟩
  have Q8 : OneF l.prog w K mg base "paired" 1 ["one", "other"] (spPaired [(Pt, fun _ _ => "paired.<locals>.lead")]) := ⟨_, _, gs aP, kP, ok_paired lkP hcP TB1 (List.mem_singleton.mpr rfl) (fun p hp _ => by rw [List.mem_singleton.mp hp]) (fun _ _ => rfl), bP⟩
  have Q9 : OneX l.prog w K mg base "shows" 5 ["one", "other", "pairs"] (spShows K CB CR D4 [(Pt, fun _ _ => "paired.<locals>.lead")]) := ⟨_, _, gs a_shows, F_shows.kp, ok_shows F_shows GS TR Q5 Q7 Q6 K2 Q4 Q8, b_shows⟩
  have OA : OneF l.prog w K mg base "_law_made" 6 ["_law_book", "_law_plain"] (spLMade K CB CR) := ⟨_, _, gs a__law_made, F__law_made.kp, ok_lmade F__law_made GY TR ⟨CG_Reader.made, m_Reader___init__.at_, m_Reader___init__.fn, CG_Reader.kc⟩ (ok_rinit F_Reader___init__ GM TR X_NoReader P4 P5 K1) b_Reader___init__, b__law_made⟩
  exact ok_law (fun_mk lk hcd kL) GW GX OS OP OB OA OQ ON OD Q9 T ⟨CG_Book.made, m_Book___init__.at_, m_Book___init__.fn, CG_Book.kc⟩ (ok_init F_Book___init__ GS T X_NoBook F_is_name (gs a_is_name) b_is_name F_is_sign (gs a_is_sign) b_is_sign F_are_signs (gs a_are_signs) b_are_signs) b_Book___init__
end TH
open PySem PySem.W PyProof.Rows
set_option maxRecDepth 100000 in
set_option maxHeartbeats 0 in
theorem PySem.Challenge.cw_treehands_k13_what_shows_them_the_same_holds : PySem.Challenge.rw_treehands_k13_what_shows_them_the_same.Holds := by
  w_on; o_law; k_head; (case hw => w_witness2)
  k_fill
  refine LamX.walk_ofTs (l := PySem.Challenge.rw_treehands_k13_what_shows_them_the_same) (n := 63) (k := 8) (x := "_law_script") (CX := fun _ => L2.CX0) rfl (by decide) rfl ⟨rfl, by decide, by decide⟩ (fun w h Y => PySem.W.km_in_of Y) ?F (fun _ _ _ _ _ z => z)
  case F =>
    intro w mg fa h Y KX G hmg
    refine' TH.all_mk KX G hmg ?NG ?CG_Book ?CG_Reader ?a_NoBook ?RG_NoBook ?a_NoReader ?RG_NoReader ?a_Unlike ?RG_Unlike ?D_is_name ?D_is_sign ?D_are_signs ?D_place_in_table ?D_table_size ?D_is_table ?D_are_tables ?D_are_liked ?D_picks ?D_choices ?D_is_closed ?D_check_alike ?D_is_fair ?D_is_pair ?D_shows ?D__law_box ?D__law_more ?D__law_take ?D__law_signs ?D__law_reader ?D__law_made ?D__law_led ?D__law_choices ?D__law_blown ?D__law_pairs ?D__law_due ?D__law_bent ?M_Book___init__ ?M_Book_many ?M_Book_kids ?M_Book_is_like ?M_Reader___init__ ?M_Reader__keep ?M_Reader_book ?M_Reader_moods ?M_Reader_liked ?M_Reader_lead ?k1 ?k2 ?k3 ?k4 ?aP ?lkP ?hcP ?kP ?hT ?nT ?hC ?aL ?lk ?hcd ?kL
    case NG => exact ⟨by k_is, by k_is, by k_is, by k_is, by k_is, by k_is, by k_is, by k_is, by k_is, by k_is, by k_is, by k_is, by k_is, by k_is, by k_is⟩
    case CG_Book => (refine' TH.BookG.mk ?a ?pg ?hd ?po ?sa ?made ?kc ?n1 ?n2; (case a => k_is); (case pg => k_is); (case hd => k_is); (case po => k_is); (case sa => k_is); (case made => k_is); (case kc => k_is); (case n1 => k_is); (case n2 => k_is))
    case CG_Reader => (refine' TH.ReaderG.mk ?a ?pg ?hd ?po ?sa ?made ?kc ?n1 ?n2 ?n3 ?n4; (case a => k_is); (case pg => k_is); (case hd => k_is); (case po => k_is); (case sa => k_is); (case made => k_is); (case kc => k_is); (case n1 => k_is); (case n2 => k_is); (case n3 => k_is); (case n4 => k_is))
    case a_NoBook => k_is
    case RG_NoBook => (refine' TH.RaiseG.mk ?x ?k ?b ?t; (case x => kernel_rfl); (case k => k_is); (case b => k_is); (case t => k_is))
    case a_NoReader => k_is
    case RG_NoReader => (refine' TH.RaiseG.mk ?x ?k ?b ?t; (case x => kernel_rfl); (case k => k_is); (case b => k_is); (case t => k_is))
    case a_Unlike => k_is
    case RG_Unlike => (refine' TH.RaiseG.mk ?x ?k ?b ?t; (case x => kernel_rfl); (case k => k_is); (case b => k_is); (case t => k_is))
    case D_is_name => (refine' TH.defG_mk ?a ?l ?c ?k; (case a => k_is); (case l => k_is); (case c => k_is); (case k => k_is))
    case D_is_sign => (refine' TH.defG_mk ?a ?l ?c ?k; (case a => k_is); (case l => k_is); (case c => k_is); (case k => k_is))
    case D_are_signs => (refine' TH.defG_mk ?a ?l ?c ?k; (case a => k_is); (case l => k_is); (case c => k_is); (case k => k_is))
    case D_place_in_table => (refine' TH.defG_mk ?a ?l ?c ?k; (case a => k_is); (case l => k_is); (case c => k_is); (case k => k_is))
    case D_table_size => (refine' TH.defG_mk ?a ?l ?c ?k; (case a => k_is); (case l => k_is); (case c => k_is); (case k => k_is))
    case D_is_table => (refine' TH.defG_mk ?a ?l ?c ?k; (case a => k_is); (case l => k_is); (case c => k_is); (case k => k_is))
    case D_are_tables => (refine' TH.defG_mk ?a ?l ?c ?k; (case a => k_is); (case l => k_is); (case c => k_is); (case k => k_is))
    case D_are_liked => (refine' TH.defG_mk ?a ?l ?c ?k; (case a => k_is); (case l => k_is); (case c => k_is); (case k => k_is))
    case D_picks => (refine' TH.defG_mk ?a ?l ?c ?k; (case a => k_is); (case l => k_is); (case c => k_is); (case k => k_is))
    case D_choices => (refine' TH.defG_mk ?a ?l ?c ?k; (case a => k_is); (case l => k_is); (case c => k_is); (case k => k_is))
    case D_is_closed => (refine' TH.defG_mk ?a ?l ?c ?k; (case a => k_is); (case l => k_is); (case c => k_is); (case k => k_is))
    case D_check_alike => (refine' TH.defG_mk ?a ?l ?c ?k; (case a => k_is); (case l => k_is); (case c => k_is); (case k => k_is))
    case D_is_fair => (refine' TH.defG_mk ?a ?l ?c ?k; (case a => k_is); (case l => k_is); (case c => k_is); (case k => k_is))
    case D_is_pair => (refine' TH.defG_mk ?a ?l ?c ?k; (case a => k_is); (case l => k_is); (case c => k_is); (case k => k_is))
    case D_shows => (refine' TH.defG_mk ?a ?l ?c ?k; (case a => k_is); (case l => k_is); (case c => k_is); (case k => k_is))
    case D__law_box => (refine' TH.defG_mk ?a ?l ?c ?k; (case a => k_is); (case l => k_is); (case c => k_is); (case k => k_is))
    case D__law_more => (refine' TH.defG_mk ?a ?l ?c ?k; (case a => k_is); (case l => k_is); (case c => k_is); (case k => k_is))
    case D__law_take => (refine' TH.defG_mk ?a ?l ?c ?k; (case a => k_is); (case l => k_is); (case c => k_is); (case k => k_is))
    case D__law_signs => (refine' TH.defG_mk ?a ?l ?c ?k; (case a => k_is); (case l => k_is); (case c => k_is); (case k => k_is))
    case D__law_reader => (refine' TH.defG_mk ?a ?l ?c ?k; (case a => k_is); (case l => k_is); (case c => k_is); (case k => k_is))
    case D__law_made => (refine' TH.defG_mk ?a ?l ?c ?k; (case a => k_is); (case l => k_is); (case c => k_is); (case k => k_is))
    case D__law_led => (refine' TH.defG_mk ?a ?l ?c ?k; (case a => k_is); (case l => k_is); (case c => k_is); (case k => k_is))
    case D__law_choices => (refine' TH.defG_mk ?a ?l ?c ?k; (case a => k_is); (case l => k_is); (case c => k_is); (case k => k_is))
    case D__law_blown => (refine' TH.defG_mk ?a ?l ?c ?k; (case a => k_is); (case l => k_is); (case c => k_is); (case k => k_is))
    case D__law_pairs => (refine' TH.defG_mk ?a ?l ?c ?k; (case a => k_is); (case l => k_is); (case c => k_is); (case k => k_is))
    case D__law_due => (refine' TH.defG_mk ?a ?l ?c ?k; (case a => k_is); (case l => k_is); (case c => k_is); (case k => k_is))
    case D__law_bent => (refine' TH.defG_mk ?a ?l ?c ?k; (case a => k_is); (case l => k_is); (case c => k_is); (case k => k_is))
    case M_Book___init__ => (refine' TH.methG_mk ?a ?i ?l ?c ?k; (case a => k_is); (case i => k_is); (case l => k_is); (case c => k_is); (case k => k_is))
    case M_Book_many => (refine' TH.methG_mk ?a ?i ?l ?c ?k; (case a => k_is); (case i => k_is); (case l => k_is); (case c => k_is); (case k => k_is))
    case M_Book_kids => (refine' TH.methG_mk ?a ?i ?l ?c ?k; (case a => k_is); (case i => k_is); (case l => k_is); (case c => k_is); (case k => k_is))
    case M_Book_is_like => (refine' TH.methG_mk ?a ?i ?l ?c ?k; (case a => k_is); (case i => k_is); (case l => k_is); (case c => k_is); (case k => k_is))
    case M_Reader___init__ => (refine' TH.methG_mk ?a ?i ?l ?c ?k; (case a => k_is); (case i => k_is); (case l => k_is); (case c => k_is); (case k => k_is))
    case M_Reader__keep => (refine' TH.methG_mk ?a ?i ?l ?c ?k; (case a => k_is); (case i => k_is); (case l => k_is); (case c => k_is); (case k => k_is))
    case M_Reader_book => (refine' TH.methG_mk ?a ?i ?l ?c ?k; (case a => k_is); (case i => k_is); (case l => k_is); (case c => k_is); (case k => k_is))
    case M_Reader_moods => (refine' TH.methG_mk ?a ?i ?l ?c ?k; (case a => k_is); (case i => k_is); (case l => k_is); (case c => k_is); (case k => k_is))
    case M_Reader_liked => (refine' TH.methG_mk ?a ?i ?l ?c ?k; (case a => k_is); (case i => k_is); (case l => k_is); (case c => k_is); (case k => k_is))
    case M_Reader_lead => (refine' TH.methG_mk ?a ?i ?l ?c ?k; (case a => k_is); (case i => k_is); (case l => k_is); (case c => k_is); (case k => k_is))
    case k1 => k_is
    case k2 => k_is
    case k3 => k_is
    case k4 => k_is
    case aP => k_is
    case lkP => k_is
    case hcP => k_is
    case kP => k_is
    case aL => k_is
    case lk => k_is
    case hcd => k_is
    case kL => k_is
    case hT => exact PySem.W.km_tabs_of Y 235 (List.mem_singleton.mpr rfl)
    case nT => kernel_rfl
    case hC => exact PySem.W.codeHd_of_K KX (by kernel_rfl)
