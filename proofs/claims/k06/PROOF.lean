import PyProof.Rows.All
import Wide.All
import OpenK.AllK
import Wide.FinOn
import HandS.ForMost
import HandS.ForExc
import HandS.Evl
import HandS.Walk
import HandS.Wide
import HandS.WideBits
import HandS.SetBool
import HandS.SetKeys
import HandS.IsInst
import HandS.RevRange
import HandS.TupAny
import HandS.More
import HandS.Rev
import HandS.Lambda
import HandS.Style
import HandS.EndTab
import PySem.Challenge.RW_treehands_k06_readers_read
set_option Elab.async false
set_option linter.all false
set_option maxRecDepth 100000
set_option maxHeartbeats 4000000
namespace TH
open PySem PySem.Spec PyProof.Rows L2 Evl

/-! ### the box: a list of two ints whose values nobody asks for -/
def BoxAt (b : Addr) (h : Heap) : Prop :=
  ∃ (i j : Int) (t u : Tok) (n : Nat), h.get? b = some { cls := .type "list", data := .seq [Value.int i t, .int j u].toArray n }
def Box (b : Addr) : HO := .ext (BoxAt b)

theorem box_shut {P : Program} {w : World} {H H' : Hp} {h : Heap} {b : Addr} {i j : Int}
    (x : ObjOk P w H h b (.lst [.int i, .int j])) : ObjOk P w H' h b (Box b) := by
  obtain ⟨_, its, n, r, e⟩ := x
  cases r with
  | cons r1 r =>
    cases r with
    | cons r2 r =>
      cases r
      obtain ⟨t, rfl⟩ := r1
      obtain ⟨u, rfl⟩ := r2
      exact ⟨⟨i, j, t, u, n, e⟩, ⟨_, e⟩, fun h1 h2 ⟨i, j, t, u, n, q⟩ k => ⟨i, j, t, u, n, k _ q⟩⟩
theorem box_open {P : Program} {w : World} {H : Hp} {h : Heap} {b : Addr}
    (x : ObjOk P w H h b (Box b)) : ∃ i j : Int, ∀ H', ObjOk P w H' h b (.lst [.int i, .int j]) := by
  obtain ⟨⟨i, j, t, u, n, e⟩, _, _⟩ := x
  exact ⟨i, j, fun H' => ⟨by show 2 ≤ sizeLine; decide, _, n, .cons ⟨t, rfl⟩ (.cons ⟨u, rfl⟩ .nil), e⟩⟩
section
variable {X : Cx} {pins : List (Addr × Obj)} {σ : L2.St} {H : Hp} {s : Shared} {b : Addr}
theorem inv_swap {o o' : HO} (I : Inv X pins σ H s) (ho : H b = some o) (mu : Mut (some o))
    (lt : ∃ u, s.heap.get? b = some u) (new : ObjOk X.prog X.w (upd H b o') s.heap b o') : Inv X pins σ (upd H b o') s := by
  exact I.write (e := b) (t' := s.toks) (by rw [ho]; exact mu) (.inl rfl) (fun _ _ _ q => q) lt new
theorem inv_shut {i j : Int} (I : Inv X pins σ H s) (hb : H b = some (.lst [.int i, .int j])) : Inv X pins σ (upd H b (Box b)) s :=
  let ⟨_, _, _, _, e⟩ := I.hok b _ hb; inv_swap I hb trivial ⟨_, e⟩ (box_shut (I.hok b _ hb))
theorem inv_open (I : Inv X pins σ H s) (hb : H b = some (Box b)) : ∃ i j : Int, Inv X pins σ (upd H b (.lst [.int i, .int j])) s := by
  obtain ⟨i, j, k⟩ := box_open (I.hok b _ hb)
  exact ⟨i, j, inv_swap I hb trivial (I.hok b _ hb).2.1 (k _)⟩
theorem upd_same_eq {o : HO} (h : H b = some o) : upd H b o = H := by
  funext c
  unfold upd
  split
  · rename_i e
    rw [e, h]
  · rfl
end
section
variable {X : Cx}
/-- box[0], box[1] -/
def rIxBox : R2 := fun x y H Q => ∃ (b : Addr) (k : Int), x = .ref b ∧ y = .int k ∧ (k = 0 ∨ k = 1) ∧ H b = some (Box b) ∧ ∀ z, Q (.int z) H
theorem ix_box : IxR X rIxBox := by
  intro value slice pins s σ H x y v u Q I rx ry h hs
  obtain ⟨b, k, rfl, rfl, hk, hb, q⟩ := h
  obtain ⟨i, j, I1⟩ := inv_open I hb
  have hx : ∃ z, atI [V.int i, V.int j] k = some (.int z) := by
    rcases hk with rfl | rfl
    · exact ⟨i, rfl⟩
    · exact ⟨j, rfl⟩
  obtain ⟨z, hz⟩ := hx
  refine wpAny_mono (ix_list value slice pins s σ _ (.ref b) (.int k) v u (fun v H1 => v = .int z ∧ H1 = upd H b (.lst [.int i, .int j])) I1 rx ry ⟨b, _, k, _, rfl, rfl, SqL.of upd_same, hz, rfl, rfl⟩ hs) (fun w s1 hw => ?_) fun _ _ e => e
  obtain ⟨v1, H1, I2, r1, e1, e2⟩ := hw
  subst e1 e2
  have I3 := inv_shut I2 upd_same
  rw [upd_upd, upd_same_eq hb] at I3
  exact ⟨_, H, I3, r1, q z⟩
/-- box[0] = an int -/
def rSetBox : V → V → V → Hp → (Hp → Prop) → Prop := fun o i v H Q => ∃ (b : Addr) (k z : Int), o = .ref b ∧ i = .int k ∧ v = .int z ∧ (k = 0 ∨ k = 1) ∧ H b = some (Box b) ∧ Q H
theorem set_box : PSet X rSetBox := by
  intro pins s σ H o i v ov iv u Q I ro ri rv h
  obtain ⟨b, k, z, rfl, rfl, rfl, hk, hb, q⟩ := h
  obtain ⟨i0, j0, I1⟩ := inv_open I hb
  have hx : ∃ n i1 j1, ixN [V.int i0, V.int j0].length k = some n ∧ [V.int i0, V.int j0].set n (.int z) = [.int i1, .int j1] := by
    rcases hk with rfl | rfl
    · exact ⟨0, z, j0, rfl, rfl⟩
    · exact ⟨1, i0, z, rfl, rfl⟩
  obtain ⟨n, i1, j1, hn, hset⟩ := hx
  refine wpAny_mono (set_list pins s σ _ (.ref b) (.int k) (.int z) ov iv u (fun H1 => H1 = upd (upd H b (.lst [.int i0, .int j0])) b (.lst [.int i1, .int j1])) I1 ro ri rv ⟨b, _, k, n, rfl, rfl, upd_same, hn, by rw [hset]⟩) (fun _ s1 hw => ?_) fun _ _ e => e
  obtain ⟨H1, I2, e1⟩ := hw
  subst e1
  have I3 := inv_shut I2 upd_same
  rw [upd_upd, upd_upd, upd_same_eq hb] at I3
  exact ⟨H, I3, q⟩
/-- a value that is a new list of two ints becomes a box -/
theorem pe_shut {e : Expr} {t : TE} (h : PE X e t) : PE X e (fun σ H Q => t σ H fun v H1 => ∃ b i j, v = .ref b ∧ H1 b = some (.lst [.int i, .int j]) ∧ Q (.ref b) (upd H1 b (Box b))) := by
  refine ⟨fun pins s σ H Q I q => ?_⟩
  refine wpAny_mono (h.run pins s σ H _ I q) (fun u s1 hu => ?_) fun _ _ e => e
  obtain ⟨v, H1, I1, r1, b, i, j, rfl, hb, q1⟩ := hu
  exact ⟨.ref b, _, inv_shut I1 hb, r1, q1⟩
end
theorem divP {i j : Int} {b : Nat} (h : 0 < j) (hb : j.natAbs < 2 ^ b) (h0 : 0 < b) (h9 : b ≤ 9000) : CDivP i j :=
  ⟨h, PyProof.noPylong_of_log2 (Nat.lt_of_lt_of_le (PySem.Flt.log2_lt_of h0 hb) h9)⟩
end TH
set_option maxRecDepth 100000
set_option maxHeartbeats 4000000
namespace TH
open PySem L2 Evl
/-! ### data as it lies in the heap, its lists apart from the ones that are being changed (M) -/
mutual
inductive Dt (K : PySem.W.Frag) (M : Addr → Prop) (H : Hp) : V → PyData → Prop
  | non : Dt K M H .non .none
  | bl (b : Bool) : Dt K M H (.bl b) (.bool b)
  | int (i : Int) : Dt K M H (.int i) (.int i)
  | str (x : Str) : Dt K M H (.str x) (.str x)
  | lst {a : Addr} {xs : List V} {ds : List PyData} : H a = some (.lst xs) → ¬ M a → Dts K M H xs ds → Dt K M H (.ref a) (.list ds)
  | tup {a : Addr} {xs : List V} {ds : List PyData} : H a = some (.tup xs) → Dts K M H xs ds → Dt K M H (.ref a) (.tuple ds)
inductive Dts (K : PySem.W.Frag) (M : Addr → Prop) (H : Hp) : List V → List PyData → Prop
  | nil : Dts K M H [] []
  | cons {v : V} {vs : List V} {d : PyData} {ds : List PyData} : Dt K M H v d → Dts K M H vs ds → Dts K M H (v :: vs) (d :: ds)
end
section
variable {K : PySem.W.Frag} {M M' : Addr → Prop} {H H' H1 H2 : Hp}
mutual
/-- data in another heap, lists and tuples kept -/
theorem Dt.move (hl : ∀ a xs, H a = some (.lst xs) → ¬ M a → H' a = some (.lst xs) ∧ ¬ M' a) (ht : ∀ a xs, H a = some (.tup xs) → H' a = some (.tup xs)) : ∀ (d : PyData) (v : V), Dt K M H v d → Dt K M' H' v d
  | .none, _, h => by cases h; exact .non
  | .bool b, _, h => by cases h; exact .bl b
  | .int i, _, h => by cases h; exact .int i
  | .str x, _, h => by cases h; exact .str x
  | .list ds, _, h => by
    cases h with
    | lst h1 h2 h3 => exact .lst (hl _ _ h1 h2).1 (hl _ _ h1 h2).2 (Dts.move hl ht ds _ h3)
  | .tuple ds, _, h => by
    cases h with
    | tup h1 h3 => exact .tup (ht _ _ h1) (Dts.move hl ht ds _ h3)
  | .dict _, _, h => by cases h
theorem Dts.move (hl : ∀ a xs, H a = some (.lst xs) → ¬ M a → H' a = some (.lst xs) ∧ ¬ M' a) (ht : ∀ a xs, H a = some (.tup xs) → H' a = some (.tup xs)) : ∀ (ds : List PyData) (vs : List V), Dts K M H vs ds → Dts K M' H' vs ds
  | [], _, h => by cases h; exact .nil
  | d :: ds, _, h => by
    cases h with
    | cons h1 h2 => exact .cons (Dt.move hl ht d _ h1) (Dts.move hl ht ds _ h2)
end
mutual
theorem Dt.dp : ∀ (d : PyData) (v : V), Dt K M H v d → Dp K H v d
  | .none, _, h => by cases h; exact .non
  | .bool b, _, h => by cases h; exact .bl b
  | .int i, _, h => by cases h; exact .int i
  | .str x, _, h => by cases h; exact .str x
  | .list ds, _, h => by
    cases h with
    | lst h1 h2 h3 => exact .lst (sq_of h1) (Dts.dp ds _ h3)
  | .tuple ds, _, h => by
    cases h with
    | tup h1 h3 => exact .tup (SqT.of h1) (Dts.dp ds _ h3)
  | .dict _, _, h => by cases h
theorem Dts.dp : ∀ (ds : List PyData) (vs : List V), Dts K M H vs ds → DpAll K H vs ds
  | [], _, h => by cases h; exact .nil
  | d :: ds, _, h => by
    cases h with
    | cons h1 h2 => exact .cons (Dt.dp d _ h1) (Dts.dp ds _ h2)
end
theorem Dt.ex {v : V} {d : PyData} (h : Dt K M H v d) (e : Ex H H') : Dt K M H' v d := Dt.move (fun a xs h n => ⟨e _ _ h, n⟩) (fun a xs h => e _ _ h) d v h
theorem Dts.ex {vs : List V} {ds : List PyData} (h : Dts K M H vs ds) (e : Ex H H') : Dts K M H' vs ds := Dts.move (fun a xs h n => ⟨e _ _ h, n⟩) (fun a xs h => e _ _ h) ds vs h
theorem Dt.weak {v : V} {d : PyData} (h : Dt K M H v d) (m : ∀ a, M' a → M a) : Dt K M' H v d := Dt.move (fun a xs h n => ⟨h, fun z => n (m a z)⟩) (fun a xs h => h) d v h
theorem Dts.weak {vs : List V} {ds : List PyData} (h : Dts K M H vs ds) (m : ∀ a, M' a → M a) : Dts K M' H vs ds := Dts.move (fun a xs h n => ⟨h, fun z => n (m a z)⟩) (fun a xs h => h) ds vs h
theorem sqt_upd {a l : Addr} {xs ys : List V} {o : HO} (hl : H l = some (.lst ys)) (h : SqT K H a xs) : SqT K (upd H l o) a xs := by
  have ne : ∀ u, H a = some u → (∀ zs, u ≠ .lst zs) → a ≠ l := fun u h1 h2 z => by
    subst z
    rw [hl] at h1
    exact h2 ys (Option.some.inj h1).symm
  rcases h with (h | ⟨u, h⟩) | h
  · exact .inl (.inl (by rw [upd_ne (ne _ h fun zs z => by cases z)]; exact h))
  · exact .inl (.inr ⟨u, by rw [upd_ne (ne _ h fun zs z => by cases z)]; exact h⟩)
  · exact .inr h
theorem Dt.upd {v : V} {d : PyData} {l : Addr} {ys : List V} {o : HO} (h : Dt K M H v d) (hl : H l = some (.lst ys)) (m : M l) : Dt K M (L2.upd H l o) v d :=
  Dt.move (fun a xs h n => ⟨by rw [upd_ne (show a ≠ l from fun z => n (by rw [z]; exact m))]; exact h, n⟩) (fun a xs h => by rw [upd_ne (ne_of h hl (by intro z; cases z))]; exact h) d v h
theorem Dts.upd {vs : List V} {ds : List PyData} {l : Addr} {ys : List V} {o : HO} (h : Dts K M H vs ds) (hl : H l = some (.lst ys)) (m : M l) : Dts K M (L2.upd H l o) vs ds :=
  Dts.move (fun a xs h n => ⟨by rw [upd_ne (show a ≠ l from fun z => n (by rw [z]; exact m))]; exact h, n⟩) (fun a xs h => by rw [upd_ne (ne_of h hl (by intro z; cases z))]; exact h) ds vs h
theorem Dts.length : ∀ {vs : List V} {ds : List PyData}, Dts K M H vs ds → vs.length = ds.length
  | _, _, .nil => rfl
  | _, _, .cons _ t => by rw [List.length_cons, List.length_cons, Dts.length t]
theorem Dts.get : ∀ {vs : List V} {ds : List PyData} {i : Nat} {v : V}, Dts K M H vs ds → vs[i]? = some v → ∃ d, ds[i]? = some d ∧ Dt K M H v d
  | _, _, _, _, .nil, e => by simp at e
  | _, _, 0, _, .cons r _, e => by simp at e; subst e; exact ⟨_, rfl, r⟩
  | _, _, i + 1, v, .cons _ t, e => by
    obtain ⟨u, h1, h2⟩ := Dts.get (i := i) (v := v) t (by simpa using e)
    exact ⟨u, by simpa using h1, h2⟩
theorem Dts.at : ∀ {vs : List V} {ds : List PyData} {i : Nat} {d : PyData}, Dts K M H vs ds → ds[i]? = some d → ∃ v, vs[i]? = some v ∧ Dt K M H v d
  | _, _, _, _, .nil, e => by simp at e
  | _, _, 0, _, .cons r _, e => by simp at e; subst e; exact ⟨_, rfl, r⟩
  | _, _, i + 1, v, .cons _ t, e => by
    obtain ⟨u, h1, h2⟩ := Dts.at (i := i) (d := v) t (by simpa using e)
    exact ⟨u, by simpa using h1, h2⟩
theorem Dts.append : ∀ {xs ys : List V} {ds es : List PyData}, Dts K M H xs ds → Dts K M H ys es → Dts K M H (xs ++ ys) (ds ++ es)
  | _, _, _, _, .nil, s => s
  | _, _, _, _, .cons r t, s => .cons r (Dts.append t s)
theorem Dts.one {v : V} {d : PyData} (h : Dt K M H v d) : Dts K M H [v] [d] := .cons h .nil
theorem Dts.take : ∀ {xs : List V} {ds : List PyData} (n : Nat), Dts K M H xs ds → Dts K M H (xs.take n) (ds.take n)
  | _, _, 0, _ => .nil
  | _, _, _ + 1, .nil => .nil
  | _, _, n + 1, .cons r t => .cons r (Dts.take n t)
theorem Dts.drop : ∀ {xs : List V} {ds : List PyData} (n : Nat), Dts K M H xs ds → Dts K M H (xs.drop n) (ds.drop n)
  | _, _, 0, r => r
  | _, _, _ + 1, .nil => .nil
  | _, _, n + 1, .cons _ t => Dts.drop n t
theorem Dts.set : ∀ {xs : List V} {ds : List PyData} {v : V} {d : PyData} (i : Nat), Dt K M H v d → Dts K M H xs ds → Dts K M H (xs.set i v) (ds.set i d)
  | _, _, _, _, _, _, .nil => .nil
  | _, _, _, _, 0, r, .cons _ t => .cons r t
  | _, _, _, _, n + 1, r, .cons q t => .cons q (Dts.set n r t)
theorem Dts.reverse : ∀ {xs : List V} {ds : List PyData}, Dts K M H xs ds → Dts K M H xs.reverse ds.reverse
  | _, _, .nil => .nil
  | _, _, .cons r t => by
    rw [List.reverse_cons, List.reverse_cons]
    exact Dts.append (Dts.reverse t) (.one r)
/-- a part of a list -/
def cutG {α : Type} (xs : List α) (lo hi : Option Int) : List α := (xs.drop (HT.sIx xs.length 0 lo)).take (HT.sIx xs.length xs.length hi - HT.sIx xs.length 0 lo)
theorem Dts.cut {xs : List V} {ds : List PyData} {lo hi : Option Int} (h : Dts K M H xs ds) : Dts K M H (cutV xs lo hi) (cutG ds lo hi) := by
  unfold cutV cutG
  rw [h.length]
  exact (h.drop _).take _
theorem Dts.ints : ∀ {vs : List V} (ns : List Int), Dts K M H vs (ns.map PyData.int) → vs = ns.map V.int
  | _, [], .nil => rfl
  | _, n :: ns, .cons (.int _) t => by rw [Dts.ints ns t]; rfl
theorem Dts.strs : ∀ {vs : List V} (ns : List Str), Dts K M H vs (ns.map PyData.str) → vs = ns.map V.str
  | _, [], .nil => rfl
  | _, n :: ns, .cons (.str _) t => by rw [Dts.strs ns t]; rfl
theorem Dts.bls : ∀ {vs : List V} (ns : List Bool), Dts K M H vs (ns.map PyData.bool) → vs = ns.map V.bl
  | _, [], .nil => rfl
  | _, n :: ns, .cons (.bl _) t => by rw [Dts.bls ns t]; rfl
theorem Dts.of_ints : ∀ (ns : List Int), Dts K M H (ns.map V.int) (ns.map PyData.int)
  | [] => .nil
  | n :: ns => .cons (.int n) (Dts.of_ints ns)
theorem Dts.of_strs : ∀ (ns : List Str), Dts K M H (ns.map V.str) (ns.map PyData.str)
  | [] => .nil
  | n :: ns => .cons (.str n) (Dts.of_strs ns)

/-! ### what an expression gives, as data -/
/-- the changing ones are all known -/
def Ok (M : Addr → Prop) (H : Hp) : Prop := ∀ l, M l → H l ≠ none
theorem Ok.ex (h : Ok M H) (e : Ex H H') : Ok M H' := fun l m z => by
  cases q : H l with
  | none => exact h l m q
  | some o =>
    rw [e l o q] at z
    cases z
theorem Ok.new (h : Ok M H) {p : Addr} (n : H p = none) : ¬ M p := fun m => h p m n
def EvP (K : PySem.W.Frag) (M : Addr → Prop) (te : TE) (σ : L2.St) (H : Hp) (P : PyData → Prop) : Prop :=
  ∀ H1, Ex H H1 → ∀ Q : VK, (∀ v d H2, Ex H1 H2 → Dt K M H2 v d → P d → Q v H2) → te σ H1 Q
def EvPA (K : PySem.W.Frag) (M : Addr → Prop) (ta : TA) (σ : L2.St) (H : Hp) (P : List PyData → Prop) : Prop :=
  ∀ H1, Ex H H1 → ∀ Q : List V → Hp → Prop, (∀ vs ds H2, Ex H1 H2 → Dts K M H2 vs ds → P ds → Q vs H2) → ta σ H1 Q
abbrev EvD (K : PySem.W.Frag) (M : Addr → Prop) (te : TE) (σ : L2.St) (H : Hp) (d : PyData) : Prop := EvP K M te σ H (· = d)
abbrev EvDA (K : PySem.W.Frag) (M : Addr → Prop) (ta : TA) (σ : L2.St) (H : Hp) (ds : List PyData) : Prop := EvPA K M ta σ H (· = ds)
end
section
variable {K : PySem.W.Frag} {M : Addr → Prop} {H H' : Hp} {σ : L2.St} {ta tb te tc : TE} {r : R2} {P PA PB : PyData → Prop} {d d1 d2 : PyData}
theorem EvP.use (h : EvP K M te σ H P) {Q : VK} (q : ∀ v d H2, Ex H H2 → Dt K M H2 v d → P d → Q v H2) : te σ H Q := h H (Ex.refl H) Q q
theorem EvP.ex (h : EvP K M te σ H P) (e : Ex H H') : EvP K M te σ H' P := fun H1 e1 => h H1 (e.trans e1)
theorem EvPA.use {ta : TA} {P : List PyData → Prop} (h : EvPA K M ta σ H P) {Q : List V → Hp → Prop} (q : ∀ vs ds H2, Ex H H2 → Dts K M H2 vs ds → P ds → Q vs H2) : ta σ H Q := h H (Ex.refl H) Q q
theorem EvPA.ex {ta : TA} {P : List PyData → Prop} (h : EvPA K M ta σ H P) (e : Ex H H') : EvPA K M ta σ H' P := fun H1 e1 => h H1 (e.trans e1)
theorem EvP.mono (h : EvP K M te σ H P) (k : ∀ d, P d → PA d) : EvP K M te σ H PA := fun H1 e Q q => h H1 e Q fun v d H2 e2 hd hp => q v d H2 e2 hd (k d hp)
/-- data from a value that is known -/
theorem evd_of {v : V} (h : Ev te σ H v) (hd : Dt K M H v d) : EvD K M te σ H d := fun H1 e Q q => h H1 e Q fun H2 e2 => q v d H2 e2 (hd.ex (e.trans e2)) rfl
theorem evd_var {i : Nat} {v : V} (h : σ[i]? = some (some v)) (hd : Dt K M H v d) : EvD K M (tVar i) σ H d := evd_of (ev_var h) hd
theorem evd_int {i : Int} : EvD K M (tC (.int i)) σ H (.int i) := evd_of ev_c (.int i)
theorem evd_str {x : Str} : EvD K M (tC (.str x)) σ H (.str x) := evd_of ev_c (.str x)
theorem evd_bl {b : Bool} : EvD K M (tC (.bl b)) σ H (.bool b) := evd_of ev_c (.bl b)
theorem evd_non : EvD K M (tC .non) σ H .none := evd_of ev_c .non
/-- an operator, by its rule on data -/
theorem evp_op (ha : EvP K M ta σ H PA) (hb : EvP K M tb σ H PB)
    (hr : ∀ x y a b H1, Ex H H1 → Dt K M H1 x a → Dt K M H1 y b → PA a → PB b → ∀ Q : VK, (∀ v d H2, Ex H1 H2 → Dt K M H2 v d → P d → Q v H2) → r x y H1 Q) : EvP K M (tOp r ta tb) σ H P := fun H1 e Q q =>
  ha H1 e _ fun x a H2 e2 dx px => hb H2 (e.trans e2) _ fun y b H3 e3 dy py => hr x y a b H3 ((e.trans e2).trans e3) (dx.ex e3) dy px py Q fun v d H4 e4 dv pv => q v d H4 ((e2.trans e3).trans e4) dv pv
/-- two ints -/
theorem evp_I0 {g : Int → Int → V} (ha : EvP K M ta σ H PA) (hb : EvP K M tb σ H PB) (hg : ∀ a b, PA a → PB b → ∃ i j, a = .int i ∧ b = .int j ∧ ∃ d, P d ∧ ∀ H', Dt K M H' (g i j) d) : EvP K M (tOp (rI0 g) ta tb) σ H P :=
  evp_op ha hb fun x y a b H1 e dx dy px py Q q => by
    obtain ⟨i, j, rfl, rfl, d, pd, hd⟩ := hg a b px py
    cases dx
    cases dy
    exact ⟨i, j, rfl, rfl, q _ d H1 (Ex.refl _) (hd _) pd⟩
theorem evp_I {C : Int → Int → Prop} {g : Int → Int → V} (ha : EvP K M ta σ H PA) (hb : EvP K M tb σ H PB) (hg : ∀ a b, PA a → PB b → ∃ i j, a = .int i ∧ b = .int j ∧ C i j ∧ ∃ d, P d ∧ ∀ H', Dt K M H' (g i j) d) : EvP K M (tOp (rI C g) ta tb) σ H P :=
  evp_op ha hb fun x y a b H1 e dx dy px py Q q => by
    obtain ⟨i, j, rfl, rfl, hc, d, pd, hd⟩ := hg a b px py
    cases dx
    cases dy
    exact ⟨i, j, rfl, rfl, hc, q _ d H1 (Ex.refl _) (hd _) pd⟩
theorem evd_add {i j : Int} (ha : EvD K M ta σ H (.int i)) (hb : EvD K M tb σ H (.int j)) : EvD K M (tOp (rI0 fun i j => .int (i + j)) ta tb) σ H (.int (i + j)) :=
  evp_I0 ha hb fun a b pa pb => ⟨i, j, pa, pb, _, rfl, fun _ => .int _⟩
theorem evd_sub {i j : Int} (ha : EvD K M ta σ H (.int i)) (hb : EvD K M tb σ H (.int j)) : EvD K M (tOp (rI0 fun i j => .int (i - j)) ta tb) σ H (.int (i - j)) :=
  evp_I0 ha hb fun a b pa pb => ⟨i, j, pa, pb, _, rfl, fun _ => .int _⟩
theorem evd_cmp {g : Int → Int → Bool} {i j : Int} (ha : EvD K M ta σ H (.int i)) (hb : EvD K M tb σ H (.int j)) : EvD K M (tOp (rI0 fun i j => .bl (g i j)) ta tb) σ H (.bool (g i j)) :=
  evp_I0 ha hb fun a b pa pb => ⟨i, j, pa, pb, _, rfl, fun _ => .bl _⟩
/-- == of ints, of texts -/
theorem evd_eqI {i j : Int} (ha : EvD K M ta σ H (.int i)) (hb : EvD K M tb σ H (.int j)) : EvD K M (tOp rEq ta tb) σ H (.bool (decide (i = j))) :=
  evp_op ha hb fun x y a b H1 e dx dy px py Q q => by
    subst px py
    cases dx
    cases dy
    refine ⟨rfl, q _ _ H1 (Ex.refl _) (.bl _) ?_⟩
    simp
theorem evd_neI {i j : Int} (ha : EvD K M ta σ H (.int i)) (hb : EvD K M tb σ H (.int j)) : EvD K M (tOp rNe ta tb) σ H (.bool (!decide (i = j))) :=
  evp_op ha hb fun x y a b H1 e dx dy px py Q q => by
    subst px py
    cases dx
    cases dy
    refine ⟨rfl, q _ _ H1 (Ex.refl _) (.bl _) ?_⟩
    simp
theorem evd_eqS {i j : Str} (ha : EvD K M ta σ H (.str i)) (hb : EvD K M tb σ H (.str j)) : EvD K M (tOp rEq ta tb) σ H (.bool (decide (i = j))) :=
  evp_op ha hb fun x y a b H1 e dx dy px py Q q => by
    subst px py
    cases dx
    cases dy
    refine ⟨rfl, q _ _ H1 (Ex.refl _) (.bl _) ?_⟩
    simp
theorem evd_neS {i j : Str} (ha : EvD K M ta σ H (.str i)) (hb : EvD K M tb σ H (.str j)) : EvD K M (tOp rNe ta tb) σ H (.bool (!decide (i = j))) :=
  evp_op ha hb fun x y a b H1 e dx dy px py Q q => by
    subst px py
    cases dx
    cases dy
    refine ⟨rfl, q _ _ H1 (Ex.refl _) (.bl _) ?_⟩
    simp
/-- arguments -/
theorem eva_nil : EvDA K M tNil σ H [] := fun H1 e Q q => q [] [] H1 (Ex.refl _) .nil rfl
theorem evpa_cons {tr : TA} {PR : List PyData → Prop} (ha : EvP K M ta σ H PA) (hr : EvPA K M tr σ H PR) : EvPA K M (tCons ta tr) σ H (fun l => ∃ a ds, l = a :: ds ∧ PA a ∧ PR ds) := fun H1 e Q q =>
  ha H1 e _ fun x a H2 e2 dx px => hr H2 (e.trans e2) _ fun vs ds H3 e3 dv pv => q _ _ H3 (e2.trans e3) (.cons (dx.ex e3) dv) ⟨a, ds, rfl, px, pv⟩
theorem eva_cons {tr : TA} {ds : List PyData} (ha : EvD K M ta σ H d) (hr : EvDA K M tr σ H ds) : EvDA K M (tCons ta tr) σ H (d :: ds) := fun H1 e Q q =>
  ha H1 e _ fun x a H2 e2 dx px => hr H2 (e.trans e2) _ fun vs es H3 e3 dv pv => q _ _ H3 (e2.trans e3) (.cons (dx.ex e3) dv) (by rw [px, pv])
/-- displays -/
theorem evp_tup {t : TA} {PL : List PyData → Prop} (h : EvPA K M t σ H PL) (hl : ∀ ds, PL ds → ds.length ≤ sizeLine) : EvP K M (tTup t) σ H (fun d => ∃ ds, d = .tuple ds ∧ PL ds) := fun H1 e Q q =>
  h H1 e _ fun vs ds H2 e2 dv pv => ⟨by rw [dv.length]; exact hl ds pv, fun p hp => q _ _ _ (e2.trans (Ex.new hp)) (.tup upd_same (dv.ex (Ex.new hp))) ⟨ds, rfl, pv⟩⟩
theorem evd_tup {t : TA} {ds : List PyData} (h : EvDA K M t σ H ds) (hl : ds.length ≤ sizeLine := by decide) : EvD K M (tTup t) σ H (.tuple ds) := fun H1 e Q q =>
  h H1 e _ fun vs es H2 e2 dv pv => ⟨by rw [dv.length, pv]; exact hl, fun p hp => q _ _ _ (e2.trans (Ex.new hp)) (.tup upd_same (dv.ex (Ex.new hp))) (by rw [pv])⟩
theorem evp_lst {t : TA} {PL : List PyData → Prop} (ok : Ok M H) (h : EvPA K M t σ H PL) (hl : ∀ ds, PL ds → ds.length ≤ sizeLine) : EvP K M (tLst t) σ H (fun d => ∃ ds, d = .list ds ∧ PL ds) := fun H1 e Q q =>
  h H1 e _ fun vs ds H2 e2 dv pv => ⟨by rw [dv.length]; exact hl ds pv, fun p hp => q _ _ _ (e2.trans (Ex.new hp)) (.lst upd_same ((ok.ex (e.trans e2)).new hp) (dv.ex (Ex.new hp))) ⟨ds, rfl, pv⟩⟩
theorem evd_lst {t : TA} {ds : List PyData} (ok : Ok M H) (h : EvDA K M t σ H ds) (hl : ds.length ≤ sizeLine := by decide) : EvD K M (tLst t) σ H (.list ds) := fun H1 e Q q =>
  h H1 e _ fun vs es H2 e2 dv pv => ⟨by rw [dv.length, pv]; exact hl, fun p hp => q _ _ _ (e2.trans (Ex.new hp)) (.lst upd_same ((ok.ex (e.trans e2)).new hp) (dv.ex (Ex.new hp))) (by rw [pv])⟩
/-- an item of a list, of a tuple -/
theorem evd_ixL {ds : List PyData} {i : Int} {j : Nat} (ha : EvD K M ta σ H (.list ds)) (hb : EvD K M tb σ H (.int i)) (hi : i = (j : Int)) (hj : ds[j]? = some d) : EvD K M (tOp (rIxL K) ta tb) σ H d :=
  evp_op ha hb fun x y a b H1 e dx dy px py Q q => by
    subst px py
    cases dx with
    | lst h1 h2 h3 =>
      cases dy
      obtain ⟨v, hv, dv⟩ := h3.at hj
      exact ⟨_, _, _, v, rfl, rfl, sq_of h1, by rw [hi]; exact atI_nat hv, q v d H1 (Ex.refl _) dv rfl⟩
theorem evd_ixT {ds : List PyData} {i : Int} {j : Nat} (ha : EvD K M ta σ H (.tuple ds)) (hb : EvD K M tb σ H (.int i)) (hi : i = (j : Int)) (hj : ds[j]? = some d) : EvD K M (tOp (rIxT K) ta tb) σ H d :=
  evp_op ha hb fun x y a b H1 e dx dy px py Q q => by
    subst px py
    cases dx with
    | tup h1 h3 =>
      cases dy
      obtain ⟨v, hv, dv⟩ := h3.at hj
      exact ⟨_, _, _, v, rfl, rfl, SqT.of h1, by rw [hi]; exact atI_nat hv, q v d H1 (Ex.refl _) dv rfl⟩
/-- a part of a list, two lists together, list(..) -/
def EvPO (K : PySem.W.Frag) (M : Addr → Prop) (t : TO) (σ : L2.St) (H : Hp) (o : Option Int) : Prop := ∀ H1, Ex H H1 → ∀ Q : Option Int → Hp → Prop, (∀ H2, Ex H1 H2 → Q o H2) → t σ H1 Q
theorem evo_none : EvPO K M tNoPart σ H none := fun H1 e Q q => q H1 (Ex.refl _)
theorem evo_some {i : Int} (h : EvD K M te σ H (.int i)) : EvPO K M (tPart te) σ H (some i) := fun H1 e Q q =>
  h H1 e _ fun v d H2 e2 dv pd => by
    subst pd
    cases dv
    exact ⟨i, rfl, q H2 e2⟩
theorem evd_slL {ds : List PyData} {tl th : TO} {lo hi : Option Int} (ok : Ok M H) (ha : EvD K M ta σ H (.list ds)) (hl : EvPO K M tl σ H lo) (hh : EvPO K M th σ H hi) : EvD K M (tSl (rSlL K) ta tl th) σ H (.list (cutG ds lo hi)) := fun H1 e Q q =>
  ha H1 e _ fun v d H2 e2 dv pd => hl H2 (e.trans e2) _ fun H3 e3 => hh H3 ((e.trans e2).trans e3) _ fun H4 e4 => by
    subst pd
    cases dv.ex (e3.trans e4) with
    | lst h1 h2 h3 => exact ⟨_, _, rfl, sq_of h1, fun p hp => q _ _ _ (((e2.trans e3).trans e4).trans (Ex.new hp)) (.lst upd_same ((ok.ex (((e.trans e2).trans e3).trans e4)).new hp) (h3.cut.ex (Ex.new hp))) rfl⟩
theorem evd_slS {z : Str} {tl th : TO} {lo hi : Option Int} (ha : EvD K M ta σ H (.str z)) (hz : z.length ≤ sizeLine) (hl : EvPO K M tl σ H lo) (hh : EvPO K M th σ H hi) : EvD K M (tSl (fun x lo hi H Q => ∃ z, x = .str z ∧ z.length ≤ sizeLine ∧ Q (.str (cutS z lo hi)) H) ta tl th) σ H (.str (cutS z lo hi)) := fun H1 e Q q =>
  ha H1 e _ fun v d H2 e2 dv pd => hl H2 (e.trans e2) _ fun H3 e3 => hh H3 ((e.trans e2).trans e3) _ fun H4 e4 => by
    subst pd
    cases dv
    exact ⟨_, rfl, hz, q _ _ H4 ((e2.trans e3).trans e4) (.str _) rfl⟩
theorem evd_cat {ds es : List PyData} (ok : Ok M H) (ha : EvD K M ta σ H (.list ds)) (hb : EvD K M tb σ H (.list es)) (hs : ds.length + es.length ≤ sizeLine) : EvD K M (tOp rCat ta tb) σ H (.list (ds ++ es)) :=
  evp_op ha hb fun x y a b H1 e dx dy px py Q q => by
    subst px py
    cases dx with
    | lst h1 h2 h3 =>
      cases dy with
      | lst k1 k2 k3 => exact ⟨_, _, _, _, rfl, rfl, h1, k1, by rw [h3.length, k3.length]; exact hs, fun p hp => q _ _ _ (Ex.new hp) (.lst upd_same ((ok.ex e).new hp) ((h3.append k3).ex (Ex.new hp))) rfl⟩
theorem evd_addS {i j : Str} (ha : EvD K M ta σ H (.str i)) (hb : EvD K M tb σ H (.str j)) (hs : i.length + j.length ≤ sizeLine) : EvD K M (tOp (fun x y H Q => ∃ i j, x = .str i ∧ y = .str j ∧ i.length + j.length ≤ sizeLine ∧ Q (.str (i ++ j)) H) ta tb) σ H (.str (i ++ j)) :=
  evp_op ha hb fun x y a b H1 e dx dy px py Q q => by
    subst px py
    cases dx
    cases dy
    exact ⟨i, j, rfl, rfl, hs, q _ _ H1 (Ex.refl _) (.str _) rfl⟩
/-- a built-in, an own def -/
theorem evp_cb {r : List V → Hp → VK → Prop} {t : TA} {PL : List PyData → Prop} (h : EvPA K M t σ H PL)
    (hr : ∀ vs ds H1, Ex H H1 → Dts K M H1 vs ds → PL ds → ∀ Q : VK, (∀ v d H2, Ex H1 H2 → Dt K M H2 v d → P d → Q v H2) → r vs H1 Q) : EvP K M (tCB r t) σ H P := fun H1 e Q q =>
  h H1 e _ fun vs ds H2 e2 dv pv => hr vs ds H2 (e.trans e2) dv pv Q fun v d H3 e3 dd pd => q v d H3 (e2.trans e3) dd pd
/-- the promise of a def from data to data -/
def spD (K : PySem.W.Frag) (A : List PyData → Prop) (B : List PyData → PyData → Prop) : Sp := fun vs H Q _ =>
  ∃ (M : Addr → Prop) (ds : List PyData), Ok M H ∧ Dts K M H vs ds ∧ A ds ∧ ∀ v d H', Ex H H' → Dt K M H' v d → B ds d → Q v H'
theorem evp_call {A : List PyData → Prop} {B : List PyData → PyData → Prop} {E : XK} {t : TA} {PL : List PyData → Prop} (ok : Ok M H) (h : EvPA K M t σ H PL) (ha : ∀ ds, PL ds → A ds) : EvP K M (tCall (spD K A B) [] E t) σ H (fun d => ∃ ds, PL ds ∧ B ds d) := fun H1 e Q q =>
  h H1 e _ fun vs ds H2 e2 dv pv => ⟨M, ds, ok.ex (e.trans e2), by rw [List.append_nil]; exact dv, ha ds pv, fun v d H3 e3 dd pd => q v d H3 (e2.trans e3) dd ⟨ds, pv, pd⟩⟩
theorem evd_call {A : List PyData → Prop} {F : List PyData → PyData} {E : XK} {t : TA} {ds : List PyData} (ok : Ok M H) (h : EvDA K M t σ H ds) (ha : A ds) : EvD K M (tCall (spD K A fun ds d => d = F ds) [] E t) σ H (F ds) :=
  (evp_call ok h fun es pe => by rw [pe]; exact ha).mono fun d ⟨es, pe, pd⟩ => by rw [pd, pe]
/-- tests -/
theorem EvT.use {t : TT} {b : Bool} (h : EvT t σ H b) {Q : Bool → Hp → Prop} (q : ∀ H2, Ex H H2 → Q b H2) : t σ H Q := h H (Ex.refl H) Q q
theorem evt_test {b : Bool} (h : EvD K M te σ H (.bool b)) : EvT (tTest te) σ H b := fun H1 e Q q => h H1 e _ fun v d H2 e2 dv pd => by
  subst pd
  cases dv
  exact ⟨b, rfl, q H2 e2⟩
theorem evt_B {b : Bool} (h : EvD K M te σ H (.bool b)) : EvT (tB te) σ H b := fun H1 e Q q => h H1 e _ fun v d H2 e2 dv pd => by
  subst pd
  cases dv
  exact ⟨b, rfl, q H2 e2⟩
theorem evt_yes : EvT tYes σ H true := fun H1 e Q q => q H1 (Ex.refl _)
theorem evd_andV {a b : Bool} (ha : EvD K M ta σ H (.bool a)) (hb : a = true → EvD K M tb σ H (.bool b)) : EvD K M (tAndV ta tb) σ H (.bool (a && b)) := fun H1 e Q q => ha H1 e _ fun v d H2 e2 dv pd => by
  subst pd
  cases dv
  refine ⟨a, rfl, ?_⟩
  cases a with
  | true => exact iteT (hb rfl H2 (e.trans e2) _ fun v d H3 e3 dv pd => q v d H3 (e2.trans e3) dv (by rw [pd]; rfl))
  | false => exact iteF (q _ _ H2 e2 (.bl _) rfl)
theorem evd_orV {a b : Bool} (ha : EvD K M ta σ H (.bool a)) (hb : a = false → EvD K M tb σ H (.bool b)) : EvD K M (tOrV ta tb) σ H (.bool (a || b)) := fun H1 e Q q => ha H1 e _ fun v d H2 e2 dv pd => by
  subst pd
  cases dv
  refine ⟨a, rfl, ?_⟩
  cases a with
  | false => exact iteF (hb rfl H2 (e.trans e2) _ fun v d H3 e3 dv pd => q v d H3 (e2.trans e3) dv (by rw [pd]; rfl))
  | true => exact iteT (q _ _ H2 e2 (.bl _) rfl)
theorem evd_notV {a : Bool} (ha : EvD K M ta σ H (.bool a)) : EvD K M (tNotV ta) σ H (.bool (!a)) := fun H1 e Q q => ha H1 e _ fun v d H2 e2 dv pd => by
  subst pd
  cases dv
  exact ⟨a, rfl, q _ _ H2 e2 (.bl _) rfl⟩
theorem evp_if {t : TT} {b : Bool} (h : EvT t σ H b) (h1 : b = true → EvP K M ta σ H P) (h2 : b = false → EvP K M tb σ H P) : EvP K M (tIf t ta tb) σ H P := fun H1 e Q q => h H1 e _ fun H2 e2 => by
  cases b with
  | true => exact iteT (h1 rfl H2 (e.trans e2) Q fun v d H3 e3 => q v d H3 (e2.trans e3))
  | false => exact iteF (h2 rfl H2 (e.trans e2) Q fun v d H3 e3 => q v d H3 (e2.trans e3))
/-- a chain of two comparisons of ints -/
theorem evd_chainI {g g' : Int → Int → Bool} {i j k : Int} (ha : EvD K M ta σ H (.int i)) (hb : EvD K M tb σ H (.int j)) (hc : EvD K M tc σ H (.int k)) : EvD K M (tChain (rI0 fun i j => .bl (g i j)) (rI0 fun i j => .bl (g' i j)) ta tb tc) σ H (.bool (g i j && g' j k)) := fun H1 e Q q =>
  ha H1 e _ fun x a H2 e2 dx px => hb H2 (e.trans e2) _ fun y b H3 e3 dy py => by
    subst px py
    cases dx
    cases dy
    refine ⟨i, j, rfl, rfl, g i j, rfl, ?_⟩
    cases hg : g i j with
    | false => exact iteF (q _ _ H3 (e2.trans e3) (.bl _) (by rw [hg]; rfl))
    | true => exact iteT (hc H3 ((e.trans e2).trans e3) _ fun z c H4 e4 dz pz => by
        subst pz
        cases dz
        exact ⟨j, k, rfl, rfl, q _ _ H4 ((e2.trans e3).trans e4) (.bl _) (by rw [hg]; rfl)⟩)
end
end TH
set_option maxRecDepth 100000
set_option maxHeartbeats 4000000
namespace TH
open PySem L2 Evl
section
variable {K : PySem.W.Frag} {M : Addr → Prop} {H H1 H' : Hp} {σ : L2.St} {ta tb te tl : TE} {tt : TT} {g : TG} {vs : List Nat}
def more (M : Addr → Prop) (D : Addr) : Addr → Prop := fun a => M a ∨ a = D
theorem Dt.more {v : V} {d : PyData} {D : Addr} (h : Dt K M H v d) (hD : H D = none) : Dt K (TH.more M D) H v d :=
  Dt.move (fun a xs h n => ⟨h, fun z => z.elim n fun e => by rw [e, hD] at h; cases h⟩) (fun a xs h => h) d v h
theorem Dts.more {v : List V} {d : List PyData} {D : Addr} (h : Dts K M H v d) (hD : H D = none) : Dts K (TH.more M D) H v d :=
  Dts.move (fun a xs h n => ⟨h, fun z => z.elim n fun e => by rw [e, hD] at h; cases h⟩) (fun a xs h => h) d v h
theorem more_sub {D : Addr} : ∀ a, M a → TH.more M D a := fun _ h => .inl h
theorem paired_map {α : Type} {F : α → PyData} : ∀ {l : List α} {es : List PyData}, Paired (fun a e => e = F a) l es → es = l.map F
  | _, _, .nil => rfl
  | _, _, .cons h t => by rw [h, paired_map t]; rfl
theorem paired_len {α : Type} {P : α → PyData → Prop} : ∀ {l : List α} {es : List PyData}, Paired P l es → es.length = l.length
  | _, _, .nil => rfl
  | _, _, .cons h t => by rw [List.length_cons, List.length_cons, paired_len t]
theorem paired_mem {α : Type} {P : α → PyData → Prop} : ∀ {l : List α} {es : List PyData}, Paired P l es → ∀ e ∈ es, ∃ a ∈ l, P a e
  | _, _, .nil, e, h => by cases h
  | _, _, .cons h t, e, he => by
    rcases List.mem_cons.mp he with rfl | he
    · exact ⟨_, List.mem_cons_self, h⟩
    · obtain ⟨a, ha, p⟩ := paired_mem t e he
      exact ⟨a, List.mem_cons_of_mem _ ha, p⟩
/-- what a turn of a comprehension gives -/
def Turned (K : PySem.W.Frag) (M : Addr → Prop) (σ : L2.St) (vs : List Nat) (tt : TT) (te : TE) (b : Bool) (P : PyData → Prop) (σ2 : L2.St) (H2 : Hp) : Prop :=
  wipe σ2 vs = wipe σ vs ∧ EvT tt σ2 H2 b ∧ (b = true → EvP K M te σ2 H2 P)
theorem lc_data {α : Type} (L : List α) {J : It} {G : Hp → Prop} {Y : Nat → Hp → V → Hp → Prop} (w : Walk J L.length G Y) {D : Addr} {Qd : Hp → Prop} (ok : Ok M H1) (hD : H1 D = none) (hn : L.length < sizeLine)
    (f : α → Bool) (P : α → PyData → Prop) (hG : ∀ H, Ex H1 H → G H)
    (hs : ∀ (M' : Addr → Prop) (i : Nat) (a : α) (x : V) (H H' : Hp), (∀ v d, Dt K M H1 v d → Dt K M' H1 v d) → Ok M' H → L[i]? = some a → Ex H1 H → Y i H x H' →
      ∀ Qg : L2.St → Hp → Prop, (∀ σ2 H2, Ex H H2 → Turned K M' σ vs tt te (f a) (P a) σ2 H2 → Qg σ2 H2) → g x (wipe σ vs) H' Qg)
    (q : ∀ H es, Ex H1 H → Dt K M H (.ref D) (.list es) → Paired P (L.filter f) es → Qd H) :
    ∃ W : Nat → Nat → Hp → Prop, (∃ m, W 0 m (upd H1 D (.lst []))) ∧ ∀ i m H, W i m H →
      (J.stop i H ∧ Qd H) ∨ (J.go i H ∧ ∃ Nx : Hp → Prop, (∀ H', Nx H' → ∃ m', m' < m ∧ W (i + 1) m' H') ∧ ∀ x H', J.yld i H x H' → g x (wipe σ vs) H' fun σ2 H2 => wipe σ2 vs = wipe σ vs ∧ tt σ2 H2 fun b H3 =>
        if b = true then te σ2 H3 fun y H4 => ∃ acc, H4 D = some (.lst acc) ∧ acc.length < sizeLine ∧ Nx (upd H4 D (.lst (acc ++ [y]))) else Nx H3) := by
  have ok' : ∀ {H}, Ex H1 H → H D ≠ none → Ok (TH.more M D) H := fun {H} e n l m => by
    rcases m with m | rfl
    · exact (ok.ex e) l m
    · exact n
  refine lc_it w (fun i H => Ex H1 H ∧ ∃ acc es, H D = some (.lst acc) ∧ Dts K (TH.more M D) H acc es ∧ Paired P ((L.take i).filter f) es)
    ⟨Ex.new hD, [], [], upd_same, .nil, .nil⟩ (fun i H _ p => hG H p.1) (fun i x H H' hi p y => ?_) (fun H p => ?_)
  · obtain ⟨e, acc, es, hacc, dacc, pr⟩ := p
    obtain ⟨a, ha⟩ : ∃ a, L[i]? = some a := ⟨L[i], List.getElem?_eq_getElem hi⟩
    have tk : L.take (i + 1) = L.take i ++ [a] := by rw [List.take_add_one, ha]; rfl
    refine hs (TH.more M D) i a x H H' (fun v d h => h.more hD) (ok' e (by rw [hacc]; simp)) ha e y _ fun σ2 H2 e2 T => ?_
    obtain ⟨hw, ht, he⟩ := T
    refine ⟨hw, ht H2 (Ex.refl _) _ fun H3 e3 => ?_⟩
    have e03 := e2.trans e3
    have lacc : acc.length ≤ i := by
      rw [dacc.length, paired_len pr]
      refine Nat.le_trans (List.length_filter_le _ _) ?_
      rw [List.length_take]
      exact Nat.min_le_left _ _
    cases hf : f a with
    | true =>
      refine iteT (he hf H3 e3 _ fun y d H4 e4 dy py => ?_)
      refine ⟨acc, e4 _ _ (e03 _ _ hacc), Nat.lt_of_le_of_lt lacc (Nat.lt_trans hi hn), ?_, acc ++ [y], es ++ [d], upd_same, ?_, ?_⟩
      · exact Ex.mut ((e.trans e03).trans e4) hD
      · exact (((dacc.ex (e03.trans e4))).append (.one dy)).upd (e4 _ _ (e03 _ _ hacc)) (.inr rfl)
      · rw [tk, List.filter_append, List.filter_cons, hf, if_pos rfl]
        exact Paired.snoc pr py
    | false =>
      refine iteF ⟨e.trans e03, acc, es, e03 _ _ hacc, dacc.ex e03, ?_⟩
      rw [tk, List.filter_append, List.filter_cons, hf]
      simpa using pr
  · obtain ⟨e, acc, es, hacc, dacc, pr⟩ := p
    rw [List.take_length] at pr
    exact q H es e (.lst hacc (ok.new hD) (dacc.weak more_sub)) pr
/-- over a list -/
theorem evp_lcL {ds : List PyData} (f : PyData → Bool) (P : PyData → PyData → Prop) (ok : Ok M H) (hl : EvD K M tl σ H (.list ds)) (hz : ds.length < sizeLine)
    (hs : ∀ (M' : Addr → Prop) (d : PyData) (x : V) (H' : Hp), (∀ v d, Dt K M H v d → Dt K M' H' v d) → Ok M' H' → d ∈ ds → Ex H H' → Dt K M' H' x d →
      ∀ Qg : L2.St → Hp → Prop, (∀ σ2 H2, Ex H' H2 → Turned K M' σ vs tt te (f d) (P d) σ2 H2 → Qg σ2 H2) → g x (wipe σ vs) H' Qg) :
    EvP K M (tLc (iList K tl) g tt te vs) σ H (fun d => ∃ es, d = .list es ∧ Paired P (ds.filter f) es) := fun H0 e Q q =>
  hl H0 e _ fun v d H1 e1 dv pd => by
    subst pd
    cases dv with
    | lst h1 h2 h3 =>
      rename_i a xs
      refine ⟨a, rfl, ⟨xs, sq_of h1⟩, fun D hD => ?_⟩
      have hw : Walk (Itl K a) ds.length (fun H => SqL K H a xs) (YAt xs) := by
        rw [← h3.length]
        exact walk_list
      refine lc_data (σ := σ) (vs := vs) ds hw ((ok.ex (e.trans e1))) hD hz f P (fun H e => sq_of (e _ _ h1)) (fun M' i d x H2 H' hm ok' hd e2 y Qg qg => ?_) (fun H2 es e2 dd pr => q _ _ H2 (e1.trans e2) dd ⟨es, rfl, pr⟩)
      obtain ⟨rfl, hx⟩ := y
      obtain ⟨d', hd', dx⟩ := h3.get hx
      rw [hd] at hd'
      cases hd'
      exact hs M' d x _ (fun v d h => (hm v d (h.ex (e.trans e1))).ex e2) ok' (List.mem_of_getElem? hd) ((e.trans e1).trans e2) ((hm _ _ dx).ex e2) Qg qg
theorem evd_lcL {ds : List PyData} (f : PyData → Bool) (F : PyData → PyData) (ok : Ok M H) (hl : EvD K M tl σ H (.list ds)) (hz : ds.length < sizeLine)
    (hs : ∀ (M' : Addr → Prop) (d : PyData) (x : V) (H' : Hp), (∀ v d, Dt K M H v d → Dt K M' H' v d) → Ok M' H' → d ∈ ds → Ex H H' → Dt K M' H' x d →
      ∀ Qg : L2.St → Hp → Prop, (∀ σ2 H2, Ex H' H2 → Turned K M' σ vs tt te (f d) (· = F d) σ2 H2 → Qg σ2 H2) → g x (wipe σ vs) H' Qg) :
    EvD K M (tLc (iList K tl) g tt te vs) σ H (.list ((ds.filter f).map F)) :=
  (evp_lcL f (fun d e => e = F d) ok hl hz hs).mono fun d ⟨es, e, pr⟩ => by rw [e, paired_map pr]
/-- over a text -/
theorem evp_lcS {z : Str} (f : Nat → Bool) (P : Nat → PyData → Prop) (ok : Ok M H) (hl : EvD K M tl σ H (.str z)) (hz : z.length < sizeLine)
    (hs : ∀ (M' : Addr → Prop) (c : Nat) (H' : Hp), (∀ v d, Dt K M H v d → Dt K M' H' v d) → Ok M' H' → c ∈ z.cps.toList → Ex H H' →
      ∀ Qg : L2.St → Hp → Prop, (∀ σ2 H2, Ex H' H2 → Turned K M' σ vs tt te (f c) (P c) σ2 H2 → Qg σ2 H2) → g (.str ⟨#[c]⟩) (wipe σ vs) H' Qg) :
    EvP K M (tLc (iStr tl) g tt te vs) σ H (fun d => ∃ es, d = .list es ∧ Paired P (z.cps.toList.filter f) es) := fun H0 e Q q =>
  hl H0 e _ fun v d H1 e1 dv pd => by
    subst pd
    cases dv
    refine ⟨z, rfl, fun D hD => ?_⟩
    have hw : Walk (Its z) z.cps.toList.length (fun _ => True) (fun i H v H' => H' = H ∧ ∃ c, z.cps[i]? = some c ∧ v = .str ⟨#[c]⟩) := by
      rw [Array.length_toList]
      exact walk_str
    refine lc_data (σ := σ) (vs := vs) z.cps.toList hw ((ok.ex (e.trans e1))) hD (by rw [Array.length_toList]; exact hz) f P (fun H e => trivial) (fun M' i d x H2 H' hm ok' hd e2 y Qg qg => ?_) (fun H2 es e2 dd pr => q _ _ H2 (e1.trans e2) dd ⟨es, rfl, pr⟩)
    obtain ⟨rfl, c, hc, rfl⟩ := y
    have ec : c = d := by
      rw [Array.getElem?_toList, hc] at hd
      exact Option.some.inj hd
    subst ec
    exact hs M' c _ (fun v d h => (hm v d (h.ex (e.trans e1))).ex e2) ok' (Array.mem_toList_iff.mpr (Array.mem_of_getElem? hc)) ((e.trans e1).trans e2) Qg qg
theorem evd_lcS {z : Str} (f : Nat → Bool) (F : Nat → PyData) (ok : Ok M H) (hl : EvD K M tl σ H (.str z)) (hz : z.length < sizeLine)
    (hs : ∀ (M' : Addr → Prop) (c : Nat) (H' : Hp), (∀ v d, Dt K M H v d → Dt K M' H' v d) → Ok M' H' → c ∈ z.cps.toList → Ex H H' →
      ∀ Qg : L2.St → Hp → Prop, (∀ σ2 H2, Ex H' H2 → Turned K M' σ vs tt te (f c) (· = F c) σ2 H2 → Qg σ2 H2) → g (.str ⟨#[c]⟩) (wipe σ vs) H' Qg) :
    EvD K M (tLc (iStr tl) g tt te vs) σ H (.list ((z.cps.toList.filter f).map F)) :=
  (evp_lcS f (fun d e => e = F d) ok hl hz hs).mono fun d ⟨es, e, pr⟩ => by rw [e, paired_map pr]
/-- over range(n) -/
theorem evp_lcR {ta : TA} {PN : Int → Prop} (f : Nat → Bool) (P : Nat → PyData → Prop) (ok : Ok M H) (hl : EvPA K M ta σ H (fun l => ∃ n : Int, l = [.int n] ∧ PN n)) (hz : ∀ n, PN n → 0 ≤ n ∧ n ≤ 100000)
    (hs : ∀ (M' : Addr → Prop) (n : Int) (i : Nat) (H' : Hp), (∀ v d, Dt K M H v d → Dt K M' H' v d) → Ok M' H' → PN n → (i : Int) < n → Ex H H' →
      ∀ Qg : L2.St → Hp → Prop, (∀ σ2 H2, Ex H' H2 → Turned K M' σ vs tt te (f i) (P i) σ2 H2 → Qg σ2 H2) → g (.int (i : Int)) (wipe σ vs) H' Qg) :
    EvP K M (tLc (iRng1 ta) g tt te vs) σ H (fun d => ∃ (n : Int) (es : List PyData), PN n ∧ d = .list es ∧ Paired P ((List.range n.toNat).filter f) es) := fun H0 e Q q =>
  hl H0 e _ fun us ds H1 e1 dv pd => by
    obtain ⟨n, rfl, pn⟩ := pd
    have hz := hz n pn
    cases dv with
    | cons h1 h2 =>
      cases h1
      cases h2
      refine ⟨n, rfl, by omega, by omega, fun D hD => ?_⟩
      have hw : Walk (Itr 0 n.toNat) (List.range n.toNat).length (fun _ => True) (YFn fun i => .int (0 + i)) := by
        rw [List.length_range]
        exact walk_range
      refine lc_data (σ := σ) (vs := vs) (List.range n.toNat) hw ((ok.ex (e.trans e1))) hD (by rw [List.length_range]; exact Nat.lt_of_le_of_lt (show n.toNat ≤ 100000 by omega) (by decide)) f P (fun H e => trivial) (fun M' i d x H2 H' hm ok' hd e2 y Qg qg => ?_) (fun H2 es e2 dd pr => q _ _ H2 (e1.trans e2) dd ⟨n, es, pn, rfl, pr⟩)
      obtain ⟨h1, h2⟩ := List.getElem?_eq_some_iff.mp hd
      rw [List.getElem_range] at h2
      rw [List.length_range] at h1
      subst h2
      obtain ⟨rfl, rfl⟩ := y
      show g (V.int (0 + (i : Int))) (wipe σ vs) _ Qg
      rw [Int.zero_add]
      exact hs M' n i _ (fun v d h => (hm v d (h.ex (e.trans e1))).ex e2) ok' pn (by omega) ((e.trans e1).trans e2) Qg qg
end
/-! ### rules by the written part's own letter, for a comprehension's block -/
section
variable {X : Cx} {K : PySem.W.Frag}
theorem ix_tupK (h : X.K = K) : IxR X (rIxT K) := by
  subst h
  exact ix_tup
theorem ix_listK (h : X.K = K) : IxR X (rIxL K) := by
  subst h
  exact ix_list
theorem sl_listK (h : X.K = K) : SlR X (rSlL K) := by
  subst h
  exact sl_list
theorem pi_listK {tg l : Expr} {tl : TE} (h : X.K = K) (hl : PE X l tl) : PI X tg l (iList K tl) := by
  subst h
  exact pi_list hl
theorem op_notIn_seqK (h : X.K = K) : OpR X (compareOp .NotIn) (rIn K true) := by
  subst h
  exact op_notIn_seq
theorem op_in_seqK (h : X.K = K) : OpR X (compareOp .In) (rIn K false) := by
  subst h
  exact op_in_seq
end
/-! ### statements -/
section
variable {K : PySem.W.Frag} {M : Addr → Prop} {H H' : Hp} {σ : L2.St} {te : TE} {P : PyData → Prop} {D : Ends} {tz : TS}
theorem s_retP (h : EvP K M te σ H P) (k : ∀ v d H1, Ex H H1 → Dt K M H1 v d → P d → D.rt v H1) : tRet te D σ H := h.use k
theorem q_asgP {i : Nat} (h : EvP K M te σ H P) (k : ∀ v d H1, Ex H H1 → Dt K M H1 v d → P d → tz D (σ.set i (some v)) H1) : tSeq (tAsg te (gName i)) tz D σ H := h.use k
theorem s_asgP {i : Nat} (h : EvP K M te σ H P) (k : ∀ v d H1, Ex H H1 → Dt K M H1 v d → P d → D.nx (σ.set i (some v)) H1) : tAsg te (gName i) D σ H := h.use k
theorem s_dropP (h : EvP K M te σ H P) (k : ∀ v d H1, Ex H H1 → Dt K M H1 v d → P d → D.nx σ H1) : tDrop te D σ H := h.use k
theorem q_dropP (h : EvP K M te σ H P) (k : ∀ v d H1, Ex H H1 → Dt K M H1 v d → P d → tz D σ H1) : tSeq (tDrop te) tz D σ H := h.use k
end
end TH
set_option maxRecDepth 100000
set_option maxHeartbeats 4000000
namespace TH
open PySem PySem.Spec PyProof.Rows L2 Evl PpSet
/-! ### {elt for target in iter}, the members ints or texts -/
section
variable {X : Cx}
/-- one turn of the block: the member goes into the set at D -/
def SetTurn (P : Program) (w : World) (D : Addr) (σ0 : L2.St) (vs : List Nat) (tt : TT) (te : TE) (Nx : Hp → Prop) (σ2 : L2.St) (H2 : Hp) : Prop :=
  wipe σ2 vs = wipe σ0 vs ∧ tt σ2 H2 fun b H3 =>
    if b = true then te σ2 H3 fun y H4 =>
      ∃ (k : Key) (S : Key → Bool) (n : Nat), y = kV k ∧ H4 D = some (SetK P w D S n) ∧ n + 1 < scanBound ∧
        Nx (upd H4 D (SetK P w D (fun j => S j || decide (j = k)) (if S k = true then n else n + 1)))
    else Nx H3
def tScK (P : Program) (w : World) (wi : TI) (g : TG) (tt : TT) (te : TE) (vs : List Nat) : TE := fun σ H Q =>
  wi σ H fun J H1 => ∀ D, H1 D = none → ∃ W : Nat → Nat → Hp → Prop,
    (∃ m, W 0 m (upd H1 D (SetK P w D (fun _ => false) 0))) ∧
    ∀ i m H, W i m H → (J.stop i H ∧ Q (.ref D) H) ∨
      (J.go i H ∧ ∃ Nx : Hp → Prop, (∀ H', Nx H' → ∃ m', m' < m ∧ W (i + 1) m' H') ∧
        ∀ x H', J.yld i H x H' → g x (wipe σ vs) H' (SetTurn P w D σ vs tt te Nx))
/-- the member is added, within any context -/
theorem addK_ok {Y : Cx} {pins : List (Addr × Obj)} {σ : L2.St} {G : Hp} {s : Shared} {D : Addr} {S : Key → Bool} {n : Nat} {k : Key} {u : Value} {Q E : Value → Shared → Prop}
    (I : Inv Y pins σ G s) (hD : G D = some (SetK Y.prog Y.w D S n)) (ru : RelV (kV k) u) (room : n + 1 < scanBound)
    (h : ∀ v s', Inv Y pins σ (upd G D (SetK Y.prog Y.w D (fun j => S j || decide (j = k)) (if S k = true then n else n + 1))) s' → Q v s') :
    wpAny (model Y.prog Y.w) Y.A (call (.builtin "set.add") [.ref D, u]) Q E s := by
  refine call_set_add (kV_is ru) (key_scan ru) (setK_get I hD) room fun hp' same born => ?_
  have there : ∃ o, hp'.get? D = some o := by
    obtain ⟨o, _, _, _, ho, _⟩ := id born
    exact ⟨o, ho⟩
  exact h _ _ (I.write (e := D) (t' := s.toks + 1) (by rw [hD]; trivial) (.inl rfl) (fun b o hb ho => (same.2 b hb).trans ho) there (setK_new born))
theorem setK_start {G : Hp} {s : Shared} {pins : List (Addr × Obj)} {σ : L2.St} (I : Inv X pins σ G s) :
    Inv X pins σ (upd G s.heap.objs.size (SetK X.prog X.w s.heap.objs.size (fun _ => false) 0))
      { s with heap := s.heap.push { cls := .type "set", dict := none, data := .set #[] 0 (.fresh 0 0 (!X.w.params.followText "set-order")) } } := by
  have born : (s.heap.push { cls := .type "set", dict := none, data := .set #[] 0 (.fresh 0 0 (!X.w.params.followText "set-order")) }).SetOf (mixKind X.prog X.w) s.heap.objs.size (fun _ => false) 0 := by
    refine ⟨_, #[], 0, _, Heap.get?_push_size _ rfl, ⟨rfl, rfl, rfl⟩, rfl, ?_, ?_, by decide, by rfl, rfl⟩
    · intro e he
      simp at he
    · intro k
      simp
  exact I.laid (t' := s.toks) (fun b u q => Heap.get?_push_of_some _ q) (Nat.le_refl _) (setK_new born)
theorem pe_scK {elt tg iter : Expr} {ifs : List Expr} {scope : Scope} {own : List (Str × Nat)} {pos : Pos} {wi : TI} {g : TG} {tt : TT} {te : TE}
    (calm : X.calm = true) (nodup : X.N.Nodup) (src : PI X tg iter wi) (blk : BlkOk X.N X.env.scope scope own)
    (ptg : ∀ (s : Shared) (G : Hp) (C : Addr) (cl : List (Str × Addr)) (fp : List Addr), PG (X.blk s G scope (compEnvC scope cl C X.env) fp) tg g)
    (pif : ∀ (s : Shared) (G : Hp) (C : Addr) (cl : List (Str × Addr)) (fp : List Addr), PTs (X.blk s G scope (compEnvC scope cl C X.env) fp) ifs tt)
    (pel : ∀ (s : Shared) (G : Hp) (C : Addr) (cl : List (Str × Addr)) (fp : List Addr), PE (X.blk s G scope (compEnvC scope cl C X.env) fp) elt te)
    (fold : ∀ x, foldedSetIterable iter X.env x = pure x := by intro _; rfl) :
    PE X (.SetComp elt [⟨tg, iter, ifs, 0⟩] scope pos) (tScK X.prog X.w wi g tt te (own.map (·.2))) := by
  refine ⟨fun pins s σ G Q I wish => ?_⟩
  rw [eval_SetComp]
  have caught : ∀ y ∈ scope.names, y.2 = .free → ∃ c, X.env.cells.lookup y.1 = some c := by
    intro y hy hf
    cases blk.free y hy hf with
    | inl z => exact I.ok.has _ (.inl z)
    | inr z => exact I.ok.has _ (.inr z)
  refine wpAny_comprehension_free rfl fold (closure_ok caught) blk.kind (fun y hy z => by rw [blk.uniq y hy, z]) ?_
  refine thn (src.run pins s σ G _ I wish) fun seqv sA hA => thn hA fun itv sB hB => ?_
  obtain ⟨it, fp, turnAt, J, GB, eit, IB, TT, stB, fpB, hq⟩ := hB
  subst eit
  refine newSet_ok (newEnv_comp ?_)
  have fresh : GB sB.heap.objs.size = none := IB.hok.fresh (Nat.le_refl _)
  have IC := setK_start IB
  revert fresh IC
  generalize eD : sB.heap.objs.size = D
  intro fresh IC
  obtain ⟨W, ⟨m0, w0⟩, steps⟩ := hq D fresh
  revert IC
  generalize eC : ({ sB with heap := sB.heap.push { cls := .type "set", dict := none, data := .set #[] 0 (.fresh 0 0 (!X.w.params.followText "set-order")) } } : Shared) = sC
  generalize eG : upd GB D (SetK X.prog X.w D (fun _ => false) 0) = GC at w0
  intro IC
  have grown : ∀ b o, sB.heap.get? b = some o → sC.heap.get? b = some o := by
    intro b o q
    rw [← eC]
    exact Heap.get?_push_of_some _ q
  have small : ∀ b ∈ fp, b < sB.heap.objs.size := by
    intro b hb
    obtain ⟨o, q, _⟩ := TT.obj _ _ stB b hb
    exact Heap.lt_size q
  have fpC : ∀ b ∈ fp, FpOk X pins GC b ∧ b < sC.heap.objs.size := by
    intro b hb
    have lt := small b hb
    constructor
    · refine ⟨?_, (fpB b hb).2⟩
      rw [← eG, upd_ne (by rw [← eD]; exact Nat.ne_of_lt lt)]
      exact (fpB b hb).1
    · rw [← eC]
      show b < (sB.heap.push _).objs.size
      rw [Heap.size_push]
      exact Nat.lt_succ_of_lt lt
  have stC : turnAt 0 sC.heap := TT.keep _ _ _ stB fun b _ o q => grown b o q
  have ID := block_start IC blk nodup fpC
  have tgD := ptg sC GC sC.heap.objs.size (cellsFrom (sC.heap.objs.size + 1) scope.names (cloFrom X.env.cells scope.names [])) fp
  have ifD := pif sC GC sC.heap.objs.size (cellsFrom (sC.heap.objs.size + 1) scope.names (cloFrom X.env.cells scope.names [])) fp
  have elD := pel sC GC sC.heap.objs.size (cellsFrom (sC.heap.objs.size + 1) scope.names (cloFrom X.env.cells scope.names [])) fp
  have post : ∀ (s' : Shared) (m : Str → Option Value) (G' : Hp), Inv X pins σ G' s' → Q (.ref D) G' → s'.heap.Ns sC.heap.objs.size m → FpOk X pins G' sC.heap.objs.size →
      compPost (model X.prog X.w) X.A X.xe none (EP X pins σ Q) (.ref D) sC.heap.objs.size (.ok .next) s' := by
    intro s' m G' I' q hn hf
    refine ⟨m, hn, fun h'' same => ?_⟩
    obtain ⟨f0, f1, f2, f3, f4, f5⟩ := hf
    exact ⟨.ref D, G', I'.turned (t' := s'.toks) (fun b o hb z => (same.2 b hb).trans z) f0 f1 f3 f4 f5, rfl, q⟩
  show codeAny _ _ (.compStart (.SetComp elt [⟨tg, iter, ifs, 0⟩] scope pos) 0 (.ref it) (.ref D) (compEnvC scope (cellsFrom (sC.heap.objs.size + 1) scope.names (cloFrom X.env.cells scope.names [])) sC.heap.objs.size X.env))
    (compPost (model X.prog X.w) X.A X.xe none (EP X pins σ Q) (.ref D) sC.heap.objs.size) { sC with heap := pushCells (sC.heap.push { cls := .type "dict", data := .dict #[] }) scope.names }
  have none_fp : ∀ b ∈ fp, GC b = none := fun b hb => (fpC b hb).1.1
  revert ID tgD ifD elD
  generalize eE : compEnvC scope (cellsFrom (sC.heap.objs.size + 1) scope.names (cloFrom X.env.cells scope.names [])) sC.heap.objs.size X.env = cenv
  have locals : cenv.locals = sC.heap.objs.size := by
    rw [← eE]
    rfl
  generalize eS : ({ sC with heap := pushCells (sC.heap.push { cls := .type "dict", data := .dict #[] }) scope.names } : Shared) = sD
  intro ID tgD ifD elD
  have stD : turnAt 0 sD.heap := by
    refine TT.keep _ _ _ stC fun b _ o q => ?_
    rw [← eS]
    exact pushCells_keeps _ _ _ _ (Heap.get?_push_of_some _ q)
  have steady : ∀ {σ' : L2.St} {G' : Hp} {s' : Shared}, Inv (X.blk sC GC scope cenv fp) [] σ' G' s' → (∀ b ∈ fp, G' b = none) → ∀ b ∈ fp, FpOk (X.blk sC GC scope cenv fp) [] G' b := by
    intro σ' G' s' I' hn b hb
    refine ⟨hn b hb, (I'.ok.exf b hb).1, I'.ok.exfs b hb, .inl hb, fun x c => (I'.ok.exf b hb).2 x c, fun p hp => ?_⟩
    exact absurd (show p ∈ ([] : List (Addr × Obj)) ++ [] from hp) (by simp)
  have loop : codeAny (model X.prog X.w) X.A (.compLoop (.SetComp elt [⟨tg, iter, ifs, 0⟩] scope pos) 0 (.ref it) (.ref D) cenv)
      (compPost (model X.prog X.w) X.A X.xe none (EP X pins σ Q) (.ref D) sC.heap.objs.size) sD := by
    refine compLoopS_any (fun n s' => ∃ i G', Inv (X.blk sC GC scope cenv fp) [] (wipe σ (own.map (·.2))) G' s' ∧ turnAt i s'.heap ∧ (∀ b ∈ fp, G' b = none) ∧ W i n G') ?_ m0 ⟨0, GC, ID, stD, none_fp, w0⟩
    rintro n s5 ⟨i, G5, I5, st5, n5, w5⟩
    cases steps i n G5 w5 with
    | inl done =>
      obtain ⟨stop, hq⟩ := done
      refine thnF (TT.done (X.blk sC GC scope cenv fp) rfl rfl rfl calm i [] s5 _ G5 (fun _ _ => False) I5 (steady I5 n5) st5 stop) fun r s6 ⟨hr, I6⟩ => ?_
      subst hr
      have I7 : Inv X pins σ G5 s6 := IC.call' (ch := fp) I6.os I6.base I6.hok I6.bare fun b hb =>
        ⟨(fpC b hb).1.2.2.2.1, (fpC b hb).1.2.1, (fpC b hb).1.2.2.2.2.1, (fpC b hb).1.2.2.2.2.2⟩
      have gone : G5 sC.heap.objs.size = none := by
        rw [← locals]
        exact I6.free
      obtain ⟨m, hn, _⟩ := I6.loc
      refine post s6 m G5 I7 hq ?_ (IC.fpOk (Nat.le_refl _) gone)
      rw [← locals]
      exact hn
    | inr more =>
      obtain ⟨go, Nx, hNx, step⟩ := more
      refine thnF (TT.item (X.blk sC GC scope cenv fp) rfl rfl rfl calm i [] s5 _ G5 (fun _ _ => False) I5 (steady I5 n5) st5 go) fun r s6 ⟨u, hr, h6⟩ => ?_
      subst hr
      refine thnF h6 fun _ s7 ⟨x, G7, I7, r7, y7, st7, n7⟩ => ?_
      refine thnF (tgD.run _ s7 _ G7 x u _ (I7.pinned (steady I7 n7) (TT.obj _ _ st7)) r7 (step x G7 y7)) fun _ s8 ⟨σ8, G8, I8, hw, q8⟩ => ?_
      refine thnF (ifD.run _ s8 σ8 G8 _ I8 q8) fun b s9 ⟨G9, I9, q9⟩ => ?_
      have back : ∀ {s' : Shared} {G' : Hp}, Inv (X.blk sC GC scope cenv fp) ([] ++ pinsAt fp s7.heap) σ8 G' s' → Nx G' →
          ∃ m, m < n ∧ ∃ i G', Inv (X.blk sC GC scope cenv fp) [] (wipe σ (own.map (·.2))) G' s' ∧ turnAt i s'.heap ∧ (∀ b ∈ fp, G' b = none) ∧ W i m G' := by
        intro s' G' I' nx
        obtain ⟨m', hm, w'⟩ := hNx G' nx
        have pinned : ∀ b ∈ fp, ∀ o, s7.heap.get? b = some o → s'.heap.get? b = some o ∧ G' b = none := by
          intro b hb o q
          have z := I'.pin (b, o) (List.mem_append_right _ (List.mem_append_right _ (mem_pinsAt hb q)))
          exact ⟨z.1, z.2.1⟩
        have len : (wipe σ (own.map (·.2))).length = σ8.length := by rw [← hw, wipe_length]
        refine ⟨m', hm, i + 1, G', (I'.unpinned (pins := [])).weak len ?_, TT.keep _ _ _ st7 fun b hb o q => (pinned b hb o q).1, fun b hb => ?_, w'⟩
        · intro j v q
          rw [← hw] at q
          exact (wipe_some q).1
        · obtain ⟨o, q, _⟩ := TT.obj _ _ st7 b hb
          exact (pinned b hb o q).2
      cases b with
      | false => exact back I9 q9
      | true =>
        show wpAny _ _ _ _ _ _
        refine thnF (elD.run _ s9 σ8 G9 _ I9 q9) fun z s10 ⟨yv, G10, I10, r10, k, S0, n0, ey, hD10, room, nx⟩ => ?_
        subst ey
        exact addK_ok (Y := X.blk sC GC scope cenv fp) I10 hD10 r10 room fun v s11 I11 => back I11 nx
  exact codeAny_compStart_set loop (TT.self X.A 0 _ _ _ stD loop)
end
end TH
set_option maxRecDepth 100000
set_option maxHeartbeats 4000000
namespace TH
open PySem L2 Evl
def top (i : Nat) : Stmt := PySem.Challenge.pw_treehands_k06_readers_read.main.body.getD i (.Pass ⟨0, 0, 0, 0⟩)
abbrev sBox : Stmt := top 28
abbrev sMore : Stmt := top 29
abbrev sTake : Stmt := top 30

structure Glob (mg : Str → Option Value) : Prop where
  range : mg "range" = none
  len : mg "len" = none
  abs : mg "abs" = none
  divmod : mg "divmod" = none

/-- _law_box: a new box -/
def spBox (K : PySem.W.Frag) : Sp := fun vs H Q _ => ∃ (a : Addr) (ns : List Int) (k : Int), vs = [.ref a, .int k] ∧ SqL K H a (ns.map V.int) ∧ 0 ≤ k ∧ k ≤ 100 ∧
  ∀ b H', H b = none → Ex H H' → H' b = some (Box b) → Q (.ref b) H'
/-- _law_more: a number that is not negative -/
def spMore : Sp := fun vs H Q _ => ∃ b : Addr, vs = [.ref b] ∧ H b = some (Box b) ∧ ∀ n : Int, 0 ≤ n → n.natAbs < 2 ^ 200 → Q (.int n) H
/-- _law_take: a digit below the count -/
def spTake : Sp := fun vs H Q _ => ∃ (b : Addr) (n : Int), vs = [.ref b, .int n] ∧ H b = some (Box b) ∧ 0 < n ∧ n.natAbs < 2 ^ 200 ∧
  ∀ d H', 0 ≤ d → d < n → Ex H H' → Q (.int d) H'

section
variable {P : Program} {w : World} {K : PySem.W.Frag} {mg : Str → Option Value} {base : Heap}
theorem scBox : FnScope ["_law_script", "_law_k", "_law_here", "_law_number", "_law_j", "_law_piece"] ["_law_script", "_law_k"] (defScope sBox) :=
  ⟨rfl, rfl, rfl, by decide +kernel, rfl, by decide +kernel, by decide +kernel⟩
theorem ok_box {f : Addr} {fd : FuncData} (F : Fun K "_law_box" "_law_box" sBox f fd) (G : Glob mg) :
    FnOk P w K mg base CX0 1 f fd ["_law_script", "_law_k"] (spBox K) := by
  refine F.ok scBox (fun vs H Q E h => ?_) (fun cdv A outer s H vs Q E hr h => ?_)
  · obtain ⟨a, ns, k, rfl, _⟩ := h
    rfl
  · obtain ⟨a, ns, k, rfl, hS, hk0, hk1, q⟩ := h
    refine ⟨_, pss_cons (ps_set (i := 2) scBox.nd rfl (.inl rfl) (pe_op op_add (pe_op op_mul pe_int (pv 1)) pe_int))
      (pss_cut (ps_if (pt_cmpR op_lt (pv 1) (pe_callB call_len_seq (by rfl) G.len PySem.boot_len (pa_cons (pv 0) pa_nil)) (nomark _))
        (pss_one (ps_set (i := 2) scBox.nd rfl (.inl rfl) (pe_ix ix_list (pv 0) (pv 1) (fun _ _ => rfl)))) pss_nil)
      (pss_cons (ps_if (pt_cmpR op_eq (pe_op op_mod (pv 2) pe_int) pe_int (nomark _))
        (pss_one (ps_ret (pe_shut (pe_lst (pa_cons (pe_op op_fdiv (pv 2) pe_int) (pa_cons (pe_op op_mod (pe_callB call_abs (by rfl) G.abs (by decide +kernel) (pa_cons (pv 2) pa_nil)) pe_int) pa_nil)))))) pss_nil)
      (pss_cons (ps_set (i := 3) scBox.nd rfl (.inl rfl) pe_int)
      (pss_cons (ps_for PassesOwn.never rfl (pi_range1 rfl G.range (pa_cons pe_int pa_nil)) (pg_name (i := 4) scBox.nd rfl (.inl rfl))
        (pss_cons (ps_set (i := 5) scBox.nd rfl (.inl rfl) (pe_op op_mod (pe_op op_add (pe_op op_add (pe_op op_mul (pe_op op_mod (pv 2) pe_int) pe_int) (pe_op op_mul pe_int (pv 4))) pe_int) pe_int))
        (pss_cons (ps_set (i := 5) scBox.nd rfl (.inl rfl) (pe_op op_mod (pe_op op_mul (pv 5) (pv 5)) pe_int))
        (pss_one (ps_set (i := 3) scBox.nd rfl (.inl rfl) (pe_op op_add (pe_op op_mul (pv 3) pe_int) (pe_op op_mod (pe_op op_mul (pv 5) (pe_op op_add (pv 5) pe_int)) pe_int)))))))
      (pss_one (ps_ret (pe_shut (pe_lst (pa_cons (pv 3) (pa_cons (pe_op op_mod (pe_callB call_abs (by rfl) G.abs (by decide +kernel) (pa_cons (pv 2) pa_nil)) pe_int) pa_nil)))))))))), ?_⟩
    -- 7919 * k + 13
    refine ⟨_, rfl, _, _, rfl, rfl, .inl (by decide), _, _, rfl, rfl, ?_⟩
    -- if k < len(script)
    refine ⟨fun σ' H' => H' = H ∧ ∃ z : Int, σ' = [some (.ref a), some (.int k), some (.int z), none, none, none], ?_, ?_⟩
    · refine ⟨_, rfl, _, rfl, _, _, rfl, .inl hS, _, _, rfl, rfl, _, rfl, ite2 (fun c => ?_) (fun _ => ?_)⟩
      · have c' : k < ((ns.map V.int).length : Int) := of_decide_eq_true c
        rw [List.length_map] at c'
        obtain ⟨j, rfl⟩ := Int.eq_ofNat_of_zero_le hk0
        have hj : j < ns.length := by omega
        refine ⟨_, rfl, _, rfl, _, _, _, .int ns[j], rfl, rfl, hS, atI_nat (by simp [hj]), rfl, ns[j], rfl⟩
      · exact ⟨rfl, _, rfl⟩
    · rintro σ' H' ⟨rfl, z, rfl⟩
      -- if here % 2 == 0
      refine ⟨_, rfl, _, _, rfl, rfl, (by show (0 : Int) < 2; decide), rfl, _, rfl, ite2 (fun _ => ?_) (fun _ => ?_)⟩
      · refine ⟨_, rfl, _, _, rfl, rfl, ⟨by decide, by decide⟩, _, rfl, _, rfl, _, _, rfl, rfl, (by show (0 : Int) < 2147483647; decide), (by show 2 ≤ sizeLine; decide), fun p hp => ⟨p, _, _, rfl, upd_same, ?_⟩⟩
        rw [upd_upd]
        exact q p _ hp (Ex.new hp) upd_same
      · refine ⟨16, rfl, by decide, by decide, for_range (n := 16) (fun i σ' H'' => H'' = H' ∧ ∃ (n : Int) (u v : Option V), σ' = [some (.ref a), some (.int k), some (.int z), some (.int n), u, v]) ⟨rfl, 0, none, none, rfl⟩ ?_ ?_⟩
        · rintro i σ' H'' hi ⟨rfl, n, u, v, rfl⟩
          have hm : ∀ x : Int, 0 ≤ x % 2147483647 ∧ x % 2147483647 < 2147483647 := fun x => ⟨Int.emod_nonneg _ (by decide), Int.emod_lt_of_pos _ (by decide)⟩
          have hm2 : ∀ x : Int, 0 ≤ x % 2147483629 ∧ x % 2147483629 < 2147483629 := fun x => ⟨Int.emod_nonneg _ (by decide), Int.emod_lt_of_pos _ (by decide)⟩
          refine ⟨_, rfl, _, _, rfl, rfl, (by show (0 : Int) < 2147483647; decide), _, _, rfl, rfl, .inr (by decide), _, rfl, _, _, rfl, rfl, .inl (by decide), _, _, rfl, rfl, _, _, rfl, rfl, _, _, rfl, rfl, (by show (0 : Int) < 2147483647; decide), ?_⟩
          refine ⟨_, rfl, _, rfl, _, _, rfl, rfl, .inl ?_, _, _, rfl, rfl, (by show (0 : Int) < 2147483629; decide), ?_⟩
          · have := hm (z % 2147483647 * 48271 + 7919 * (0 + (i : Int)) + 1)
            omega
          refine ⟨_, rfl, _, _, rfl, rfl, .inr (by decide), _, rfl, _, rfl, _, _, rfl, rfl, _, _, rfl, rfl, .inl ?_, _, _, rfl, rfl, (by show (0 : Int) < 2147483647; decide), _, _, rfl, rfl, rfl, _, _, _, rfl⟩
          · have := hm2 ((z % 2147483647 * 48271 + 7919 * (0 + (i : Int)) + 1) % 2147483647 * ((z % 2147483647 * 48271 + 7919 * (0 + (i : Int)) + 1) % 2147483647))
            omega
        · rintro σ' H'' ⟨rfl, n, u, v, rfl⟩
          refine ⟨_, rfl, _, rfl, _, rfl, _, _, rfl, rfl, (by show (0 : Int) < 2147483647; decide), (by show 2 ≤ sizeLine; decide), fun p hp => ⟨p, _, _, rfl, upd_same, ?_⟩⟩
          rw [upd_upd]
          exact q p _ hp (Ex.new hp) upd_same
theorem pow_step {i : Nat} {n r : Int} (h0 : 0 ≤ n) (h : n < 65521 ^ i) (r0 : 0 ≤ r) (r1 : r < 65521) : 0 ≤ n * 65521 + r ∧ n * 65521 + r < 65521 ^ (i + 1) := by
  rw [Int.pow_succ]
  have h2 : n + 1 ≤ 65521 ^ i := h
  have h3 : (n + 1) * 65521 ≤ 65521 ^ i * 65521 := Int.mul_le_mul_of_nonneg_right h2 (by decide)
  rw [Int.add_mul] at h3
  refine ⟨?_, ?_⟩
  · have := Int.mul_nonneg h0 (show (0 : Int) ≤ 65521 by decide)
    omega
  · omega
theorem scMore : FnScope ["_law_box_here", "_law_number", "_law_j"] ["_law_box_here"] (defScope sMore) :=
  ⟨rfl, rfl, rfl, by decide +kernel, rfl, by decide +kernel, by decide +kernel⟩
theorem ok_more {f : Addr} {fd : FuncData} (F : Fun K "_law_more" "_law_more" sMore f fd) (G : Glob mg) :
    FnOk P w K mg base CX0 1 f fd ["_law_box_here"] spMore := by
  refine F.ok scMore (fun vs H Q E h => ?_) (fun cdv A outer s H vs Q E hr h => ?_)
  · obtain ⟨b, rfl, _⟩ := h
    rfl
  · obtain ⟨b, rfl, hb, q⟩ := h
    refine ⟨_, pss_cons (ps_set (i := 1) scMore.nd rfl (.inl rfl) pe_int)
      (pss_cons (ps_for PassesOwn.never rfl (pi_range1 rfl G.range (pa_cons pe_int pa_nil)) (pg_name (i := 2) scMore.nd rfl (.inl rfl))
        (pss_cons (ps_asg (pe_op op_mod (pe_op op_add (pe_op op_mul (pe_ix ix_box (pv 0) pe_int (fun _ _ => rfl)) pe_int) pe_int) pe_int) (pg_sub (pv 0) pe_int set_box))
        (pss_one (ps_set (i := 1) scMore.nd rfl (.inl rfl) (pe_op op_add (pe_op op_mul (pv 1) pe_int) (pe_op op_mod (pe_op op_fdiv (pe_ix ix_box (pv 0) pe_int (fun _ _ => rfl)) pe_int) pe_int))))))
      (pss_one (ps_ret (pv 1)))), ?_⟩
    refine ⟨12, rfl, by decide, by decide, for_range (n := 12) (fun i σ' H' => H' = H ∧ ∃ (n : Int) (u : Option V), σ' = [some (.ref b), some (.int n), u] ∧ 0 ≤ n ∧ n < 65521 ^ i) ⟨rfl, 0, none, rfl, by decide, by decide⟩ ?_ ?_⟩
    · rintro i σ' H' hi ⟨rfl, n, u, rfl, h0, h1⟩
      refine ⟨_, rfl, b, 1, rfl, rfl, .inr rfl, hb, fun z => ⟨_, _, rfl, rfl, .inr (by decide), _, _, rfl, rfl, _, _, rfl, rfl, (by show (0 : Int) < 2147483647; decide), ?_⟩⟩
      refine ⟨_, rfl, b, 1, _, rfl, rfl, rfl, .inr rfl, hb, ?_⟩
      refine ⟨_, rfl, _, _, rfl, rfl, .inr (by decide), _, rfl, b, 1, rfl, rfl, .inr rfl, hb, fun y => ⟨_, _, rfl, rfl, ⟨by decide, by decide⟩, _, _, rfl, rfl, (by show (0 : Int) < 65521; decide), _, _, rfl, rfl, rfl, _, _, rfl, ?_⟩⟩
      exact pow_step h0 h1 (Int.emod_nonneg _ (by decide)) (Int.emod_lt_of_pos _ (by decide))
    · rintro σ' H' ⟨rfl, n, u, rfl, h0, h1⟩
      refine ⟨_, rfl, q n h0 ?_⟩
      have e : (65521 : Int) ^ 12 < 2 ^ 200 := by decide
      have e2 : ((n.natAbs : Nat) : Int) < ((2 ^ 200 : Nat) : Int) := by
        rw [Int.natAbs_of_nonneg h0]
        exact Int.lt_trans h1 (by decide)
      exact Int.ofNat_lt.mp e2
theorem scTake : FnScope ["_law_box_here", "_law_count", "_law_rest_of", "_law_digit"] ["_law_box_here", "_law_count"] (defScope sTake) :=
  ⟨rfl, rfl, rfl, by decide +kernel, rfl, by decide +kernel, by decide +kernel⟩
theorem ok_take {f fM : Addr} {fd fdM : FuncData} (F : Fun K "_law_take" "_law_take" sTake f fd) (G : Glob mg) (FM : Fun K "_law_more" "_law_more" sMore fM fdM) (mM : mg "_law_more" = some (.ref fM)) (bM : Binds K fdM ["_law_box_here"] []) :
    FnOk P w K mg base CX0 2 f fd ["_law_box_here", "_law_count"] spTake := by
  have GM : FnOk P w K mg base CX0 1 fM fdM ["_law_box_here"] spMore := ok_more FM G
  refine F.ok scTake (fun vs H Q E h => ?_) (fun cdv A outer s H vs Q E hr h => ?_)
  · obtain ⟨b, n, rfl, _⟩ := h
    rfl
  · obtain ⟨b, n, rfl, hb, n0, nb, q⟩ := h
    refine ⟨_, pss_cut (ps_if (pt_chain op_le op_lt pe_int (pe_ix ix_box (pv 0) pe_int (fun _ _ => rfl)) (pv 1))
        (pss_one (ps_asg (pe_op op_add (pe_ix ix_box (pv 0) pe_int (fun _ _ => rfl)) (pe_op op_mulW (pv 1) (pe_call GM hr rfl mM FM.kp bM .nil pass0 (pa_cons (pv 0) pa_nil)))) (pg_sub (pv 0) pe_int set_box))) pss_nil)
      (pss_cons (ps_asg (pe_callB call_divmodW (by rfl) G.divmod (by decide +kernel) (pa_cons (pe_ix ix_box (pv 0) pe_int (fun _ _ => rfl)) (pa_cons (pv 1) pa_nil)))
        (pg_tup (by rfl) (pgs_cons (pg_name (i := 2) scTake.nd rfl (.inl rfl)) (pgs_cons (pg_name (i := 3) scTake.nd rfl (.inl rfl)) pgs_nil))))
      (pss_cons (ps_asg (pv 2) (pg_sub (pv 0) pe_int set_box))
      (pss_one (ps_ret (pv 3))))), ?_⟩
    refine ⟨fun σ' H' => H' = H ∧ σ' = [some (.ref b), some (.int n), none, none], ?_, ?_⟩
    · refine ⟨_, rfl, b, 0, rfl, rfl, .inl rfl, hb, fun z => ⟨_, _, rfl, rfl, _, rfl, ite2 (fun c => ?_) (fun _ => ?_)⟩⟩
      · refine ⟨_, rfl, _, _, rfl, rfl, _, rfl, ite2 (fun _ => ?_) (fun _ => ?_)⟩
        · refine ⟨_, rfl, b, 0, rfl, rfl, .inl rfl, hb, fun y => ⟨_, rfl, _, rfl, b, rfl, hb, fun m m0 mb => ⟨_, _, rfl, rfl, wide_mul nb mb (by decide) (by decide) (by decide), _, _, rfl, rfl, ?_⟩⟩⟩
          exact ⟨_, rfl, b, 0, _, rfl, rfl, rfl, .inl rfl, hb, rfl, rfl⟩
        · exact ⟨rfl, rfl⟩
      · exact ⟨_, rfl, iteF ⟨rfl, rfl⟩⟩
    · rintro σ' H' ⟨rfl, rfl⟩
      refine ⟨_, rfl, b, 0, rfl, rfl, .inl rfl, hb, fun z => ⟨_, rfl, _, _, rfl, divP n0 nb (by decide) (by decide), fun p hp => ?_⟩⟩
      have e : Ex H' (upd H' p (.tup [.int (z / n), .int (z % n)])) := Ex.new hp
      refine ⟨p, _, rfl, SqT.of upd_same, rfl, _, _, rfl, _, _, rfl, rfl, ?_⟩
      refine ⟨_, rfl, _, rfl, b, 0, _, rfl, rfl, rfl, .inl rfl, e _ _ hb, ?_⟩
      exact ⟨_, rfl, q _ _ (Int.emod_nonneg _ (by omega)) (Int.emod_lt_of_pos _ n0) e⟩
end
end TH
set_option maxRecDepth 100000
set_option maxHeartbeats 4000000
namespace TH
open PySem L2 Evl
abbrev sName : Stmt := top 23
abbrev sSign : Stmt := top 24
structure GlobS (mg : Str → Option Value) : Prop extends Glob mg where
  all : mg "all" = none
  any : mg "any" = none
  longest : ∃ t, mg "LONGEST_NAME" = some (.int 3 t)
  most : ∃ t, mg "MOST_SIGNS_signs" = some (.int 6 t)
  mostK : ∃ t, mg "MOST_KIDS" = some (.int 2 t)
  enumerate : mg "enumerate" = none
section
variable {K : PySem.W.Frag} {M : Addr → Prop} {H H1 H' : Hp} {σ : L2.St} {ta tb tc te tl : TE}
/-- a chain of two <= of texts -/
theorem evd_chainS {i j k : Str} (ha : EvD K M ta σ H (.str i)) (hb : EvD K M tb σ H (.str j)) (hc : EvD K M tc σ H (.str k)) :
    EvD K M (tChain (fun x y H Q => ∃ i j, x = .str i ∧ y = .str j ∧ Q (.bl (!decide (j.cps.toList < i.cps.toList))) H) (fun x y H Q => ∃ i j, x = .str i ∧ y = .str j ∧ Q (.bl (!decide (j.cps.toList < i.cps.toList))) H) ta tb tc) σ H
      (.bool ((!decide (j.cps.toList < i.cps.toList)) && (!decide (k.cps.toList < j.cps.toList)))) := fun H1 e Q q =>
  ha H1 e _ fun x a H2 e2 dx px => hb H2 (e.trans e2) _ fun y b H3 e3 dy py => by
    subst px py
    cases dx
    cases dy
    refine ⟨i, j, rfl, rfl, _, rfl, ?_⟩
    cases hg : (!decide (j.cps.toList < i.cps.toList)) with
    | false => exact iteF (q _ _ H3 (e2.trans e3) (.bl _) (by rw [hg]; rfl))
    | true => exact iteT (hc H3 ((e.trans e2).trans e3) _ fun z c H4 e4 dz pz => by
        subst pz
        cases dz
        exact ⟨j, k, rfl, rfl, q _ _ H4 ((e2.trans e3).trans e4) (.bl _) (by rw [hg]; rfl)⟩)
/-- all, any -/
theorem evd_all {ta : TA} {bs : List Bool} (h : EvDA K M ta σ H [.list (bs.map PyData.bool)]) : EvD K M (tCB (rAll K) ta) σ H (.bool (bs.all id)) :=
  evp_cb h fun vs ds H1 e dv pd Q q => by
    subst pd
    cases dv with
    | cons h1 h2 =>
      cases h2
      cases h1 with
      | lst k1 k2 k3 => exact ⟨_, bs, rfl, by rw [← k3.bls]; exact sq_of k1, q _ _ H1 (Ex.refl _) (.bl _) rfl⟩
theorem evd_any {ta : TA} {bs : List Bool} (h : EvDA K M ta σ H [.list (bs.map PyData.bool)]) : EvD K M (tCB (rAny K) ta) σ H (.bool (bs.any id)) :=
  evp_cb h fun vs ds H1 e dv pd Q q => by
    subst pd
    cases dv with
    | cons h1 h2 =>
      cases h2
      cases h1 with
      | lst k1 k2 k3 => exact ⟨_, bs, rfl, by rw [← k3.bls]; exact sq_of k1, q _ _ H1 (Ex.refl _) (.bl _) rfl⟩
/-- len of a text, of a list, of a tuple -/
theorem evd_lenS {ta : TA} {z : Str} (h : EvDA K M ta σ H [.str z]) (hz : z.length ≤ sizeLine) : EvD K M (tCB (fun xs H Q => ∃ z, xs = [.str z] ∧ z.length ≤ sizeLine ∧ Q (.int z.length) H) ta) σ H (.int z.length) :=
  evp_cb h fun vs ds H1 e dv pd Q q => by
    subst pd
    cases dv with
    | cons h1 h2 =>
      cases h2
      cases h1
      exact ⟨z, rfl, hz, q _ _ H1 (Ex.refl _) (.int _) rfl⟩
theorem evd_lenL {ta : TA} {es : List PyData} (h : EvDA K M ta σ H [.list es]) : EvD K M (tCB (fun xs H Q => ∃ p ys, xs = [.ref p] ∧ (SqL K H p ys ∨ SqT K H p ys) ∧ Q (.int ys.length) H) ta) σ H (.int es.length) :=
  evp_cb h fun vs ds H1 e dv pd Q q => by
    subst pd
    cases dv with
    | cons h1 h2 =>
      cases h2
      cases h1 with
      | lst k1 k2 k3 => exact ⟨_, _, rfl, .inl (sq_of k1), q _ _ H1 (Ex.refl _) (.int _) (by rw [k3.length])⟩
theorem evd_lenT {ta : TA} {es : List PyData} (h : EvDA K M ta σ H [.tuple es]) : EvD K M (tCB (fun xs H Q => ∃ p ys, xs = [.ref p] ∧ (SqL K H p ys ∨ SqT K H p ys) ∧ Q (.int ys.length) H) ta) σ H (.int es.length) :=
  evp_cb h fun vs ds H1 e dv pd Q q => by
    subst pd
    cases dv with
    | cons h1 h2 =>
      cases h2
      cases h1 with
      | tup k1 k3 => exact ⟨_, _, rfl, .inr (SqT.of k1), q _ _ H1 (Ex.refl _) (.int _) (by rw [k3.length])⟩
theorem evt_not {t : TT} {b : Bool} (h : EvT t σ H b) : EvT (tNot t) σ H (!b) := et_not h
end
theorem filter_yes {α : Type} (l : List α) : l.filter (fun _ => true) = l := by simp
/-! ### is_name, is_sign -/
def okc (c : Nat) : Bool := (!decide ([c] < ("a" : Str).cps.toList)) && (!decide (("z" : Str).cps.toList < [c]))
def isNameB (z : Str) : Bool := (decide (1 ≤ (z.length : Int)) && decide ((z.length : Int) ≤ 3)) && z.cps.toList.all okc
def nameA : List PyData → Prop := fun ds => ∃ z : Str, ds = [.str z, .int 3] ∧ z.length ≤ 100000
def nameF : List PyData → PyData
  | [.str z, .int _] => .bool (isNameB z)
  | _ => .none
section
variable {P : Program} {w : World} {K : PySem.W.Frag} {mg : Str → Option Value} {base : Heap}
theorem scName : FnScope ["name", "longest", "letter"] ["name", "longest"] (defScope sName) := ⟨rfl, rfl, rfl, by decide +kernel, rfl, by decide +kernel, by decide +kernel⟩
theorem ok_name {f : Addr} {fd : FuncData} (F : Fun K "is_name" "is_name" sName f fd) (G : GlobS mg) : FnOk P w K mg base CX0 1 f fd ["name", "longest"] (spD K nameA fun ds d => d = nameF ds) := by
  refine F.ok scName (fun vs H Q E h => ?_) (fun cdv A outer s H vs Q E hr h => ?_)
  · obtain ⟨M, ds, _, dv, ⟨z, rfl, _⟩, _⟩ := h
    exact dv.length
  · obtain ⟨M, ds, ok, dv, ⟨z, rfl, hz⟩, q⟩ := h
    cases dv with
    | cons h1 h2 =>
    cases h2 with
    | cons h3 h4 =>
    cases h1
    cases h3
    cases h4
    refine ⟨_, pss_cons (ps_if (pt_not (pt_chain op_le op_le pe_int (pe_callB call_len_str (by rfl) G.len PySem.boot_len (pa_cons (pv 0) pa_nil)) (pv 1))) (pss_one (ps_ret pe_bl)) pss_nil)
      (pss_one (ps_ret (pe_callB (cr_all rfl) (by rfl) G.all (by decide +kernel) (pa_cons (pe_lc (own := [("letter", 2)]) (g := gName 2) (tt := tYes) rfl scName.nd (pi_str (pv 0))
          (blkOk_by (N := ["name", "longest", "letter"]) (sc := defScope sName) (by decide +kernel)) (fun _ _ _ _ _ => pg_name (i := 2) scName.nd rfl (.inl rfl)) (fun _ _ _ _ _ => pts_nil)
          (fun _ _ _ _ _ => pe_chain op_le_str op_le_str pe_str (pv 2) pe_str)) pa_nil)))), ?_⟩
    have hs : z.length ≤ sizeLine := sz_of hz
    -- if not 1 <= len(name) <= 3
    refine q_when (evt_not (evt_test (K := K) (M := M) (evd_chainI (g := fun i j => decide (i ≤ j)) (g' := fun i j => decide (i ≤ j)) evd_int (evd_lenS (eva_cons (evd_var rfl (.str z)) eva_nil) hs) (evd_var rfl (.int 3))))) (fun hb H1 e1 => ?_) (fun hb H1 e1 => ?_)
    · refine q _ _ H1 e1 (.bl _) ?_
      show PyData.bool false = .bool (isNameB z)
      unfold isNameB
      rw [Bool.not_eq_true'] at hb
      rw [hb]
      rfl
    · rw [Bool.not_eq_false'] at hb
      have ok1 := ok.ex e1
      refine s_retP (K := K) (M := M) (evd_all (bs := z.cps.toList.map okc) (eva_cons ?_ eva_nil)) fun v d H2 e2 dv pd => q v d H2 (e1.trans e2) dv ?_
      · refine (evd_lcS (fun _ => true) (fun c => .bool (okc c)) ok1 (evd_var rfl (.str z)) (Nat.lt_of_le_of_lt hz (by decide)) fun M' c H' hm ok' hc e Qg qg => ?_).mono fun d h => ?_
        · exact qg _ H' (Ex.refl _) ⟨rfl, evt_yes, fun _ => (evd_chainS (i := "a") (j := ⟨#[c]⟩) (k := "z") evd_str (evd_var rfl (.str _)) evd_str).mono fun d h => h⟩
        · rw [h, filter_yes, List.map_map]
          rfl
      · rw [pd]
        show _ = PyData.bool (isNameB z)
        unfold isNameB
        rw [hb, List.all_map]
        rfl
end
end TH
set_option maxRecDepth 100000
set_option maxHeartbeats 4000000
namespace TH
open PySem L2 Evl
/-! ### how many unlike members -/
def sadd (p : (Key → Bool) × Nat) (k : Key) : (Key → Bool) × Nat := (fun j => p.1 j || decide (j = k), if p.1 k = true then p.2 else p.2 + 1)
def sall (ks : List Key) : (Key → Bool) × Nat := ks.foldl sadd (fun _ => false, 0)
theorem sadd_le : ∀ (ks : List Key) (p : (Key → Bool) × Nat), (ks.foldl sadd p).2 ≤ p.2 + ks.length
  | [], p => Nat.le_refl _
  | k :: ks, p => by
    have h := sadd_le ks (sadd p k)
    have h2 : (sadd p k).2 ≤ p.2 + 1 := by
      unfold sadd
      dsimp only
      split <;> omega
    rw [List.foldl_cons, List.length_cons]
    omega
theorem sadd_new : ∀ (ks : List Key) (p : (Key → Bool) × Nat), ks.Nodup → (∀ k ∈ ks, p.1 k = false) → (ks.foldl sadd p).2 = p.2 + ks.length
  | [], p, _, _ => rfl
  | k :: ks, p, nd, hp => by
    obtain ⟨h1, h2⟩ := List.nodup_cons.mp nd
    have e : (sadd p k).2 = p.2 + 1 := by
      unfold sadd
      dsimp only
      rw [hp k List.mem_cons_self, if_neg Bool.false_ne_true]
    rw [List.foldl_cons, sadd_new ks (sadd p k) h2, e, List.length_cons]
    · omega
    · intro j hj
      show (p.1 j || decide (j = k)) = false
      rw [hp j (List.mem_cons_of_mem _ hj), decide_eq_false (show ¬ j = k from fun e => h1 (by rw [← e]; exact hj))]
      rfl
theorem sadd_old : ∀ (ks : List Key) (p : (Key → Bool) × Nat), (¬ ks.Nodup ∨ ∃ k ∈ ks, p.1 k = true) → (ks.foldl sadd p).2 < p.2 + ks.length
  | [], p, h => by
    rcases h with h | ⟨k, hk, _⟩
    · exact absurd List.nodup_nil h
    · cases hk
  | k :: ks, p, h => by
    rw [List.foldl_cons, List.length_cons]
    by_cases hk : p.1 k = true
    · have e : (sadd p k).2 = p.2 := by
        unfold sadd
        dsimp only
        rw [if_pos hk]
      have := sadd_le ks (sadd p k)
      omega
    · have e : (sadd p k).2 = p.2 + 1 := by
        unfold sadd
        dsimp only
        rw [if_neg hk]
      have := sadd_old ks (sadd p k) ?_
      · omega
      · by_cases hm : k ∈ ks
        · exact .inr ⟨k, hm, by show (p.1 k || decide (k = k)) = true; simp⟩
        · rcases h with h | ⟨j, hj, e2⟩
          · exact .inl fun nd => h (List.nodup_cons.mpr ⟨hm, nd⟩)
          · rcases List.mem_cons.mp hj with rfl | hj
            · exact absurd e2 hk
            · exact .inr ⟨j, hj, by show (p.1 j || decide (j = k)) = true; rw [e2]; rfl⟩
theorem sall_lt (ks : List Key) : ((sall ks).2 < ks.length) = ¬ ks.Nodup := by
  apply propext
  constructor
  · intro h nd
    have := sadd_new ks (fun _ => false, 0) nd fun _ _ => rfl
    unfold sall at h
    omega
  · intro h
    have := sadd_old ks (fun _ => false, 0) (.inl h)
    unfold sall
    omega
section
variable {X : Cx}
def rLenK (P : Program) (w : World) : List V → Hp → VK → Prop := fun xs H Q => ∃ (a : Addr) (S : Key → Bool) (n : Nat), xs = [.ref a] ∧ H a = some (SetK P w a S n) ∧ Q (.int n) H
theorem call_lenK : CallR X (.builtin "len") (rLenK X.prog X.w) := by
  intro pins s σ H xs us Q I r h
  obtain ⟨a, S, n, rfl, ha, q⟩ := h
  cases r with
  | cons r1 r2 =>
    cases r2
    cases r1
    obtain ⟨o, es, ep, t, ho, hx, hd, _, _, hb, hf, hn⟩ := setK_get I ha
    refine call_len_set ho hx hd hf ?_ ?_
    · have : es.size < 2 ^ 32 := Nat.lt_of_lt_of_le hb (by decide)
      omega
    · rw [hn]
      exact ⟨.int n, H, I.kept (t' := s.toks + 1 + 1) fun _ _ z => z, ⟨_, rfl⟩, q⟩
end
section
variable {K : PySem.W.Frag} {M : Addr → Prop} {H H1 H' : Hp} {σ : L2.St} {ta tb tc te tl : TE} {P : Program} {w : World} {g : TG} {vs : List Nat}
/-- len({elt for x in list}) -/
theorem evd_lenSc {ds : List PyData} (F : PyData → Key) (ok : Ok M H) (hl : EvD K M tl σ H (.list ds)) (hz : ds.length < 1000)
    (hs : ∀ (M' : Addr → Prop) (d : PyData) (x : V) (H' : Hp), (∀ v d, Dt K M H v d → Dt K M' H' v d) → Ok M' H' → d ∈ ds → Ex H H' → Dt K M' H' x d →
      ∀ Qg : L2.St → Hp → Prop, (∀ σ2 H2, Ex H' H2 → wipe σ2 vs = wipe σ vs → Ev te σ2 H2 (kV (F d)) → Qg σ2 H2) → g x (wipe σ vs) H' Qg) :
    EvD K M (tCB (rLenK P w) (tCons (tScK P w (iList K tl) g tYes te vs) tNil)) σ H (.int (sall (ds.map F)).2) := fun H0 e Q q =>
  hl H0 e _ fun v d H1 e1 dv pd => by
    subst pd
    cases dv with
    | lst h1 h2 h3 =>
      rename_i a xs
      refine ⟨a, rfl, ⟨xs, sq_of h1⟩, fun D hD => ?_⟩
      have okD : ∀ {H}, Ex H1 H → H D ≠ none → Ok (TH.more M D) H := fun {H} e2 n l m => by
        rcases m with m | rfl
        · exact (ok.ex ((e.trans e1).trans e2)) l m
        · exact n
      refine ⟨fun i m H => m = ds.length - i ∧ i ≤ ds.length ∧ Ex H1 H ∧ H D = some (SetK P w D (sall ((ds.take i).map F)).1 (sall ((ds.take i).map F)).2),
        ⟨ds.length, by simp, Nat.zero_le _, Ex.new hD, upd_same⟩, ?_⟩
      rintro i m H2 ⟨rfl, hi, e2, hset⟩
      by_cases hlt : i < ds.length
      · refine .inr ⟨⟨xs, xs[i]'(by rw [h3.length]; exact hlt), sq_of (e2 _ _ h1), by simp⟩, fun H' => Ex H1 H' ∧ H' D = some (SetK P w D (sall ((ds.take (i + 1)).map F)).1 (sall ((ds.take (i + 1)).map F)).2), fun H' p' => ⟨ds.length - (i + 1), by omega, rfl, hlt, p'⟩, fun x H' y => ?_⟩
        obtain ⟨rfl, hx⟩ := y
        have hx := hx xs (sq_of (e2 _ _ h1))
        obtain ⟨d, hd, dx⟩ := h3.get hx
        have tk : (ds.take (i + 1)).map F = (ds.take i).map F ++ [F d] := by rw [List.take_add_one, hd, List.map_append]; rfl
        refine hs (TH.more M D) d x _ (fun v d h => ((h.ex (e.trans e1)).more hD).ex e2) (okD e2 (by rw [hset]; simp)) (List.mem_of_getElem? hd) ((e.trans e1).trans e2) ((dx.more hD).ex e2) _ fun σ2 H3 e3 hw he => ?_
        refine ⟨hw, ?_⟩
        show te σ2 H3 _
        refine he H3 (Ex.refl _) _ fun H4 e4 => ⟨F d, _, _, rfl, (e3.trans e4) _ _ hset, ?_, ?_, ?_⟩
        · have h1 := sadd_le ((ds.take i).map F) (fun _ => false, 0)
          rw [List.length_map, List.length_take] at h1
          have h2 : (sall ((ds.take i).map F)).2 ≤ 0 + min i ds.length := h1
          have h3 : (2000 : Nat) < scanBound := by decide
          omega
        · exact Ex.mut ((e2.trans e3).trans e4) hD
        · rw [tk]
          unfold sall
          rw [List.foldl_append]
          exact upd_same
      · have ei : i = ds.length := by omega
        subst ei
        refine .inl ⟨⟨xs, sq_of (e2 _ _ h1), by rw [h3.length]; exact Nat.le_refl _⟩, ?_⟩
        rw [List.take_length] at hset
        exact ⟨D, _, _, rfl, hset, q _ _ H2 (e1.trans e2) (.int _) rfl⟩
end
end TH
set_option maxRecDepth 100000
set_option maxHeartbeats 4000000
namespace TH
open PySem L2 Evl
abbrev sAre : Stmt := top 25
/-! ### books as data -/
abbrev Sg := Str × Int
def sgD (p : Sg) : PyData := .tuple [.str p.1, .int p.2]
def sgU : PyData → Sg
  | .tuple [.str z, .int k] => (z, k)
  | _ => (Str.empty, 0)
theorem sgU_map (S : List Sg) : (S.map sgD).map sgU = S := by
  rw [List.map_map]
  exact (List.map_congr_left fun p _ => rfl).trans (List.map_id S)
def isSignB (p : Sg) : Bool := isNameB p.1 && (decide (0 ≤ p.2) && decide (p.2 ≤ 2))
def validB (S : List Sg) : Bool :=
  (decide (1 ≤ (S.length : Int)) && decide ((S.length : Int) ≤ 6)) && (S.all isSignB && (!decide (((sall (S.map fun p => Sum.inr p.1)).2 : Int) < (S.length : Int)) && S.any fun p => decide (p.2 = 0)))
def signA : List PyData → Prop := fun ds => ∃ p : Sg, ds = [sgD p] ∧ p.1.length ≤ 100000
def signF : List PyData → PyData
  | [d] => .bool (isSignB (sgU d))
  | _ => .none
def areA : List PyData → Prop := fun ds => ∃ S : List Sg, ds = [.list (S.map sgD)] ∧ S.length ≤ 100 ∧ ∀ p ∈ S, p.1.length ≤ 100000
def areF : List PyData → PyData
  | [.list es] => .bool (validB (es.map sgU))
  | _ => .none
theorem areF_eq (S : List Sg) : areF [.list (S.map sgD)] = .bool (validB S) := by
  show PyData.bool (validB ((S.map sgD).map sgU)) = _
  rw [sgU_map]
section
variable {P : Program} {w : World} {K : PySem.W.Frag} {mg : Str → Option Value} {base : Heap}
theorem scSign : FnScope ["sign"] ["sign"] (defScope sSign) := ⟨rfl, rfl, rfl, by decide +kernel, rfl, by decide +kernel, by decide +kernel⟩
theorem ok_sign {f fN : Addr} {fd fdN : FuncData} (F : Fun K "is_sign" "is_sign" sSign f fd) (G : GlobS mg) (FN : Fun K "is_name" "is_name" sName fN fdN) (mN : mg "is_name" = some (.ref fN)) (bN : Binds K fdN ["name", "longest"] []) :
    FnOk P w K mg base CX0 2 f fd ["sign"] (spD K signA fun ds d => d = signF ds) := by
  have GN : FnOk P w K mg base CX0 1 fN fdN ["name", "longest"] (spD K nameA fun ds d => d = nameF ds) := ok_name FN G
  refine F.ok scSign (fun vs H Q E h => ?_) (fun cdv A outer s H vs Q E hr h => ?_)
  · obtain ⟨M, ds, _, dv, ⟨z, rfl, _⟩, _⟩ := h
    exact dv.length
  · obtain ⟨M, ds, ok, dv, ⟨p, rfl, hz⟩, q⟩ := h
    obtain ⟨t, hL⟩ := G.mostK
    obtain ⟨t3, hL3⟩ := G.longest
    cases dv with
    | cons h1 h2 =>
    cases h2
    rename_i v0
    refine ⟨_, pss_one (ps_ret (pe_and (pe_cmpR op_eq (pe_callB call_len_seq (by rfl) G.len PySem.boot_len (pa_cons (pv 0) pa_nil)) pe_int (nomark _))
      (pe_and (pe_call GN hr rfl mN FN.kp bN .nil pass0 (pa_cons (pe_ix ix_tup (pv 0) pe_int (fun _ _ => rfl)) (pa_cons (pe_glob rfl hL3 (show RelV (.int 3) _ from ⟨_, rfl⟩)) pa_nil)))
      (pe_one (pe_chain op_le op_le pe_int (pe_ix ix_tup (pv 0) pe_int (fun _ _ => rfl)) (pe_glob rfl hL (show RelV (.int 2) _ from ⟨_, rfl⟩))))))), ?_⟩
    have hv : ∀ {H'}, Ex H H' → EvD K M (tVar 0) (start ["sign"] [v0]) H' (sgD p) := fun e => evd_var rfl (h1.ex e)
    refine s_retP (K := K) (M := M) (evd_andV (evd_eqI (evd_lenT (eva_cons (hv (Ex.refl _)) eva_nil)) evd_int) fun _ => evd_andV ((evd_call (F := nameF) ok (eva_cons (evd_ixT (j := 0) (hv (Ex.refl _)) evd_int rfl rfl) (eva_cons evd_int eva_nil)) ⟨p.1, rfl, hz⟩)) fun _ =>
      evd_chainI (g := fun i j => decide (i ≤ j)) (g' := fun i j => decide (i ≤ j)) evd_int (evd_ixT (j := 1) (hv (Ex.refl _)) evd_int rfl rfl) evd_int) fun v d H2 e2 dv pd => q v d H2 e2 dv ?_
    rw [pd]
    rfl
theorem scAre : FnScope ["signs", "sign"] ["signs"] (defScope sAre) := ⟨rfl, rfl, rfl, by decide +kernel, rfl, by decide +kernel, by decide +kernel⟩
theorem ok_are {f fN fS : Addr} {fd fdN fdS : FuncData} (F : Fun K "are_signs" "are_signs" sAre f fd) (G : GlobS mg) (FN : Fun K "is_name" "is_name" sName fN fdN) (mN : mg "is_name" = some (.ref fN)) (bN : Binds K fdN ["name", "longest"] [])
    (FS : Fun K "is_sign" "is_sign" sSign fS fdS) (mS : mg "is_sign" = some (.ref fS)) (bS : Binds K fdS ["sign"] []) :
    FnOk P w K mg base CX0 3 f fd ["signs"] (spD K areA fun ds d => d = areF ds) := by
  have GS : FnOk P w K mg base CX0 2 fS fdS ["sign"] (spD K signA fun ds d => d = signF ds) := ok_sign FS G FN mN bN
  refine F.ok scAre (fun vs H Q E h => ?_) (fun cdv A outer s H vs Q E hr h => ?_)
  · obtain ⟨M, ds, _, dv, ⟨z, rfl, _⟩, _⟩ := h
    exact dv.length
  · obtain ⟨M, ds, ok, dv, ⟨S, rfl, hlen, hz⟩, q⟩ := h
    obtain ⟨t, hL⟩ := G.most
    cases dv with
    | cons h1 h2 =>
    cases h2
    rename_i v0
    refine ⟨_, pss_cons (ps_if (pt_not (pt_chain op_le op_le pe_int (pe_callB call_len_seq (by rfl) G.len PySem.boot_len (pa_cons (pv 0) pa_nil)) (pe_glob rfl hL (show RelV (.int 6) _ from ⟨_, rfl⟩)))) (pss_one (ps_ret pe_bl)) pss_nil)
      (pss_cons (ps_if (pt_not (pt_val (pe_callB (cr_all rfl) (by rfl) G.all (by decide +kernel) (pa_cons (pe_lc (own := [("sign", 1)]) (g := gName 1) (tt := tYes) rfl scAre.nd (pi_list (pv 0))
          (blkOk_by (N := ["signs", "sign"]) (sc := defScope sAre) (by decide +kernel)) (fun _ _ _ _ _ => pg_name (i := 1) scAre.nd rfl (.inl rfl)) (fun _ _ _ _ _ => pts_nil)
          (fun _ _ _ _ _ => pe_call GS hr rfl mS FS.kp bS .nil pass0 (pa_cons (pv 1) pa_nil))) pa_nil)))) (pss_one (ps_ret pe_bl)) pss_nil)
      (pss_cons (ps_if (pt_cmpR op_lt (pe_callB call_lenK (by rfl) G.len PySem.boot_len (pa_cons (pe_scK (own := [("sign", 1)]) (g := gName 1) (tt := tYes) rfl scAre.nd (pi_list (pv 0))
          (blkOk_by (N := ["signs", "sign"]) (sc := defScope sAre) (by decide +kernel)) (fun _ _ _ _ _ => pg_name (i := 1) scAre.nd rfl (.inl rfl)) (fun _ _ _ _ _ => pts_nil)
          (fun _ _ _ _ _ => pe_ix (ix_tupK (K := K) rfl) (pv 1) pe_int (fun _ _ => rfl))) pa_nil)) (pe_callB call_len_seq (by rfl) G.len PySem.boot_len (pa_cons (pv 0) pa_nil)) (nomark _)) (pss_one (ps_ret pe_bl)) pss_nil)
      (pss_one (ps_ret (pe_callB (cr_any rfl) (by rfl) G.any (by decide +kernel) (pa_cons (pe_lc (own := [("sign", 1)]) (g := gName 1) (tt := tYes) rfl scAre.nd (pi_list (pv 0))
          (blkOk_by (N := ["signs", "sign"]) (sc := defScope sAre) (by decide +kernel)) (fun _ _ _ _ _ => pg_name (i := 1) scAre.nd rfl (.inl rfl)) (fun _ _ _ _ _ => pts_nil)
          (fun _ _ _ _ _ => pe_cmpR op_eq (pe_ix (ix_tupK (K := K) rfl) (pv 1) pe_int (fun _ _ => rfl)) pe_int (nomark _))) pa_nil)))))), ?_⟩
    have hv : ∀ {H'}, Ex H H' → EvD K M (tVar 0) (start ["signs", "sign"] [v0]) H' (.list (S.map sgD)) := fun e => evd_var rfl (h1.ex e)
    have hlen' : (S.map sgD).length < sizeLine := by rw [List.length_map]; exact Nat.lt_of_le_of_lt hlen (by decide)
    have mem : ∀ d ∈ S.map sgD, ∃ p ∈ S, d = sgD p := fun d hd => by
      obtain ⟨p, hp, e⟩ := List.mem_map.mp hd
      exact ⟨p, hp, e.symm⟩
    have fin : ∀ b, validB S = b → PyData.bool b = areF [.list (S.map sgD)] := fun b e => by rw [areF_eq, e]
    -- the number of signs
    refine q_when (evt_not (evt_test (K := K) (M := M) (evd_chainI (g := fun i j => decide (i ≤ j)) (g' := fun i j => decide (i ≤ j)) evd_int (evd_lenL (eva_cons (hv (Ex.refl _)) eva_nil)) evd_int))) (fun hb H1 e1 => ?_) (fun hb H1 e1 => ?_)
    · refine q _ _ H1 e1 (.bl _) (fin _ ?_)
      rw [Bool.not_eq_true', List.length_map] at hb
      unfold validB
      rw [hb]
      rfl
    rw [Bool.not_eq_false', List.length_map] at hb
    have ok1 := ok.ex e1
    -- all signs are signs
    refine q_when (evt_not (evt_B (K := K) (M := M) (evd_all (bs := S.map isSignB) (eva_cons ?_ eva_nil)))) (fun hb2 H2 e2 => ?_) (fun hb2 H2 e2 => ?_)
    · refine (evd_lcL (fun _ => true) (fun d => signF [d]) ok1 (hv e1) hlen' fun M' d x H' hm ok' hd e dx Qg qg => ?_).mono fun d h => ?_
      · obtain ⟨p, hp, rfl⟩ := mem d hd
        exact qg _ H' (Ex.refl _) ⟨rfl, evt_yes, fun _ => evd_call (F := signF) ok' (eva_cons (evd_var rfl dx) eva_nil) ⟨p, rfl, hz p hp⟩⟩
      · rw [h, filter_yes, List.map_map, List.map_map]
        rfl
    · refine q _ _ H2 (e1.trans e2) (.bl _) (fin _ ?_)
      rw [Bool.not_eq_true', List.all_map] at hb2
      unfold validB
      rw [hb, show S.all isSignB = false from hb2]
      rfl
    rw [Bool.not_eq_false', List.all_map] at hb2
    have e12 := e1.trans e2
    have ok2 := ok.ex e12
    -- unlike names
    refine q_when (evt_test (K := K) (M := M) (evd_cmp (g := fun i j => decide (i < j)) (evd_lenSc (fun d => Sum.inr (sgU d).1) ok2 (hv e12) (by rw [List.length_map]; omega) fun M' d x H' hm ok' hd e dx Qg qg => ?_) (evd_lenL (eva_cons (hv e12) eva_nil)))) (fun hb3 H3 e3 => ?_) (fun hb3 H3 e3 => ?_)
    · obtain ⟨p, hp, rfl⟩ := mem d hd
      cases dx with
      | tup k1 k2 =>
        cases k2 with
        | cons r1 r2 =>
          cases r1
          exact qg _ H' (Ex.refl _) rfl (ev_op (ev_var rfl) ev_c (rv_ixT (SqT.of k1) (atI_nat (j := 0) rfl)))
    · refine q _ _ H3 (e12.trans e3) (.bl _) (fin _ ?_)
      rw [List.map_map, List.length_map] at hb3
      unfold validB
      rw [hb, show S.all isSignB = true from hb2, show decide (((sall (S.map fun p => Sum.inr p.1)).2 : Int) < (S.length : Int)) = true from hb3]
      rfl
    rw [List.map_map, List.length_map] at hb3
    have e13 := e12.trans e3
    have ok3 := ok.ex e13
    refine s_retP (K := K) (M := M) (evd_any (bs := S.map fun p => decide (p.2 = 0)) (eva_cons ?_ eva_nil)) fun v d H4 e4 dv pd => q v d H4 (e13.trans e4) dv ?_
    · refine (evd_lcL (fun _ => true) (fun d => .bool (decide ((sgU d).2 = 0))) ok3 (hv e13) hlen' fun M' d x H' hm ok' hd e dx Qg qg => ?_).mono fun d h => ?_
      · obtain ⟨p, hp, rfl⟩ := mem d hd
        exact qg _ H' (Ex.refl _) ⟨rfl, evt_yes, fun _ => evd_eqI (evd_ixT (j := 1) (evd_var rfl dx) evd_int rfl rfl) evd_int⟩
      · rw [h, filter_yes, List.map_map, List.map_map]
        rfl
    · rw [pd]
      refine fin _ ?_
      unfold validB
      rw [hb, show S.all isSignB = true from hb2, show decide (((sall (S.map fun p => Sum.inr p.1)).2 : Int) < (S.length : Int)) = false from hb3, List.any_map]
      rfl
end
end TH
set_option maxRecDepth 100000
set_option maxHeartbeats 4000000
namespace TH
open PySem L2 Evl
abbrev sInit : Stmt := inClass (top 26) 0
abbrev sMany : Stmt := inClass (top 26) 1
abbrev sHas : Stmt := inClass (top 26) 2
abbrev sNm : Stmt := inClass (top 26) 3
abbrev sKd : Stmt := inClass (top 26) 4
abbrev sNum : Stmt := inClass (top 26) 5
abbrev sLike : Stmt := inClass (top 26) 6
/-! ### a Book in the heap -/
theorem nk : ¬ (("_names" : Str) = "_kids") := by decide +kernel
def flds (l1 l2 : Addr) : List (Str × V) := putF "_kids" (.ref l2) (putF "_names" (.ref l1) [])
theorem flds_names (l1 l2 : Addr) : (flds l1 l2).lookup ("_names" : Str) = some (.ref l1) := by
  unfold flds
  rw [lookup_putF, if_neg nk, lookup_putF, if_pos rfl]
theorem flds_kids (l1 l2 : Addr) : (flds l1 l2).lookup ("_kids" : Str) = some (.ref l2) := by
  unfold flds
  rw [lookup_putF, if_pos rfl]
theorem flds_no (l1 l2 : Addr) {m : Str} (h1 : ¬ m = "_kids") (h2 : ¬ m = "_names") : (flds l1 l2).lookup m = none := by
  unfold flds
  rw [lookup_putF, if_neg h1, lookup_putF, if_neg h2]
  rfl
def BookAt (C : Addr) (M : Addr → Prop) (H : Hp) (p : Addr) (S : List Sg) : Prop :=
  ∃ dx l1 l2, H p = some (.ins C dx (flds l1 l2)) ∧ H l1 = some (.lst (S.map fun q => V.str q.1)) ∧ ¬ M l1 ∧ H l2 = some (.lst (S.map fun q => V.int q.2)) ∧ ¬ M l2
section
variable {K : PySem.W.Frag} {M M' : Addr → Prop} {H H' : Hp} {C p : Addr} {S : List Sg}
theorem BookAt.ex (h : BookAt C M H p S) (e : Ex H H') : BookAt C M H' p S := by
  obtain ⟨dx, l1, l2, h1, h2, h3, h4, h5⟩ := h
  exact ⟨dx, l1, l2, e _ _ h1, e _ _ h2, h3, e _ _ h4, h5⟩
theorem BookAt.weak (h : BookAt C M H p S) (m : ∀ a, M' a → M a) : BookAt C M' H p S := by
  obtain ⟨dx, l1, l2, h1, h2, h3, h4, h5⟩ := h
  exact ⟨dx, l1, l2, h1, h2, fun z => h3 (m _ z), h4, fun z => h5 (m _ z)⟩
theorem BookAt.more {D : Addr} (h : BookAt C M H p S) (hD : H D = none) : BookAt C (TH.more M D) H p S := by
  obtain ⟨dx, l1, l2, h1, h2, h3, h4, h5⟩ := h
  refine ⟨dx, l1, l2, h1, h2, fun z => ?_, h4, fun z => ?_⟩
  · rcases z with z | z
    · exact h3 z
    · rw [z, hD] at h2
      cases h2
  · rcases z with z | z
    · exact h5 z
    · rw [z, hD] at h4
      cases h4
theorem BookAt.upd {l : Addr} {ys : List V} {o : HO} (h : BookAt C M H p S) (hl : H l = some (.lst ys)) (m : M l) : BookAt C M (L2.upd H l o) p S := by
  obtain ⟨dx, l1, l2, h1, h2, h3, h4, h5⟩ := h
  refine ⟨dx, l1, l2, ?_, ?_, h3, ?_, h5⟩
  · rw [upd_ne (ne_of h1 hl (by intro z; cases z))]
    exact h1
  · rw [upd_ne (show l1 ≠ l from fun z => h3 (by rw [z]; exact m))]
    exact h2
  · rw [upd_ne (show l2 ≠ l from fun z => h5 (by rw [z]; exact m))]
    exact h4
theorem Dt.updI {v : V} {d : PyData} {l : Addr} {C dx : Addr} {fs : List (Str × V)} {o : HO} (h : Dt K M H v d) (hl : H l = some (.ins C dx fs)) : Dt K M (L2.upd H l o) v d :=
  Dt.move (fun a xs h n => ⟨by rw [upd_ne (ne_of h hl (by intro z; cases z))]; exact h, n⟩) (fun a xs h => by rw [upd_ne (ne_of h hl (by intro z; cases z))]; exact h) d v h
end
/-! ### what the top has written -/
structure ExcT (K : PySem.W.Frag) (mg : Str → Option Value) (x : Str) (C : Addr) : Prop where
  g : mg x = some (.ref C)
  x : PySem.W.excIn K C [.type "ValueError", .type "Exception", .type "BaseException", .type "object"] "ValueError.__new__" = true
  k : PySem.W.keepIn K (.ref C) = true
  b : PySem.W.subIn K (.ref C) (.type "BaseException") = some true
  t : PySem.W.typeIn K (.ref C) = some (.type "type")
structure BookT (K : PySem.W.Frag) (mg : Str → Option Value) (C : Addr) : Prop where
  cl : Cls K C
  n1 : NoAttr K C "_names"
  n2 : NoAttr K C "_kids"
  g : mg "Book" = some (.ref C)
section
variable {K : PySem.W.Frag} {M : Addr → Prop} {H H' : Hp} {σ : L2.St} {te : TE} {P : PyData → Prop} {D : Ends} {tz : TS} {i : Nat} {f : Str}
theorem q_fldP (h : EvP K M te σ H P) (k : ∀ v d H1, Ex H H1 → Dt K M H1 v d → P d → ∃ p C dx fs, σ[i]? = some (some (.ref p)) ∧ H1 p = some (.ins C dx fs) ∧ Cls K C ∧ NoAttr K C f ∧ fs.length < 1000 ∧ tz D σ (upd H1 p (.ins C dx (putF f v fs)))) :
    tSeq (sFld K (tVar i) te f) tz D σ H := h.use fun v d H1 e dv pd => by
  obtain ⟨p, C, dx, fs, h1, h2, h3, h4, h5, h6⟩ := k v d H1 e dv pd
  exact ⟨_, h1, p, C, dx, fs, rfl, h2, h3, h4, h5, h6⟩
theorem s_fldP (h : EvP K M te σ H P) (k : ∀ v d H1, Ex H H1 → Dt K M H1 v d → P d → ∃ p C dx fs, σ[i]? = some (some (.ref p)) ∧ H1 p = some (.ins C dx fs) ∧ Cls K C ∧ NoAttr K C f ∧ fs.length < 1000 ∧ D.nx σ (upd H1 p (.ins C dx (putF f v fs)))) :
    sFld K (tVar i) te f D σ H := h.use fun v d H1 e dv pd => by
  obtain ⟨p, C, dx, fs, h1, h2, h3, h4, h5, h6⟩ := k v d H1 e dv pd
  exact ⟨_, h1, p, C, dx, fs, rfl, h2, h3, h4, h5, h6⟩
end
/-- Book(signs) -/
def spInit (K : PySem.W.Frag) (C CN : Addr) : Sp := fun vs H Q E => ∃ (M : Addr → Prop) (p dx : Addr) (v : V) (S : List Sg), Ok M H ∧ vs = [.ref p, v] ∧ H p = some (.ins C dx []) ∧ Dt K M H v (.list (S.map sgD)) ∧ S.length ≤ 100 ∧ (∀ q ∈ S, q.1.length ≤ 100000) ∧
  (validB S = true → ∀ H', BookAt C M H' p S → (∀ b o, H b = some o → b ≠ p → H' b = some o) → Q .non H') ∧ (validB S = false → ∀ H', Ex H H' → E (.ref CN) none H')
section
variable {P : Program} {w : World} {K : PySem.W.Frag} {mg : Str → Option Value} {base : Heap}
theorem scInit : FnScope ["self", "signs", "sign"] ["self", "signs"] (defScope sInit) := ⟨rfl, rfl, rfl, by decide +kernel, rfl, by decide +kernel, by decide +kernel⟩
theorem ok_init {f fN fS fA C CN : Addr} {fd fdN fdS fdA : FuncData} (F : Fun K "__init__" "Book.__init__" sInit f fd) (G : GlobS mg) (T : BookT K mg C) (TN : ExcT K mg "NoBook" CN)
    (FN : Fun K "is_name" "is_name" sName fN fdN) (mN : mg "is_name" = some (.ref fN)) (bN : Binds K fdN ["name", "longest"] [])
    (FS : Fun K "is_sign" "is_sign" sSign fS fdS) (mS : mg "is_sign" = some (.ref fS)) (bS : Binds K fdS ["sign"] [])
    (FA : Fun K "are_signs" "are_signs" sAre fA fdA) (mA : mg "are_signs" = some (.ref fA)) (bA : Binds K fdA ["signs"] []) :
    FnOk P w K mg base (L2.CX P w) 4 f fd ["self", "signs"] (spInit K C CN) := by
  have GA : FnOk P w K mg base CX0 3 fA fdA ["signs"] (spD K areA fun ds d => d = areF ds) := ok_are FA G FN mN bN FS mS bS
  refine F.okX scInit (fun vs H Q E h => ?_) (fun cdv A outer s H vs Q E hr h => ?_)
  · obtain ⟨M, p, dx, v, S, _, rfl, _⟩ := h
    rfl
  · obtain ⟨M, p, dx, v, S, ok, rfl, hp, hv, hlen, hz, qy, qn⟩ := h
    refine ⟨_, pss_cons (ps_if (pt_not (pt_val (pe_call GA hr rfl mA FA.kp bA .nil pass0 (pa_cons (pv 1) pa_nil)))) (pss_one (ps_raise rfl (takes_of rfl rfl rfl rfl) (pmk_own PySem.F.excBase_ValueError TN.x TN.g TN.k (raises_own TN.b TN.t) rfl))) pss_nil)
      (pss_cons (ps_fld (pv 0) (pe_lc (own := [("sign", 2)]) (g := gName 2) (tt := tYes) rfl scInit.nd (pi_list (pv 1)) (blkOk_by (N := ["self", "signs", "sign"]) (sc := defScope sInit) (by decide +kernel)) (fun _ _ _ _ _ => pg_name (i := 2) scInit.nd rfl (.inl rfl)) (fun _ _ _ _ _ => pts_nil)
          (fun _ _ _ _ _ => pe_ix (ix_tupK (K := K) rfl) (pv 2) pe_int (fun _ _ => rfl))) rfl)
      (pss_one (ps_fld (pv 0) (pe_lc (own := [("sign", 2)]) (g := gName 2) (tt := tYes) rfl scInit.nd (pi_list (pv 1)) (blkOk_by (N := ["self", "signs", "sign"]) (sc := defScope sInit) (by decide +kernel)) (fun _ _ _ _ _ => pg_name (i := 2) scInit.nd rfl (.inl rfl)) (fun _ _ _ _ _ => pts_nil)
          (fun _ _ _ _ _ => pe_ix (ix_tupK (K := K) rfl) (pv 2) pe_int (fun _ _ => rfl))) rfl))), ?_⟩
    have hlen' : (S.map sgD).length < sizeLine := by rw [List.length_map]; exact Nat.lt_of_le_of_lt hlen (by decide)
    have mem : ∀ d ∈ S.map sgD, ∃ p ∈ S, d = sgD p := fun d hd => by
      obtain ⟨p, hp, e⟩ := List.mem_map.mp hd
      exact ⟨p, hp, e.symm⟩
    refine q_when (evt_not (evt_B (K := K) (M := M) ((evd_call (F := areF) ok (eva_cons (evd_var rfl hv) eva_nil) ⟨S, rfl, hlen, hz⟩).mono fun d h => h.trans (areF_eq S)))) (fun hb H1 e1 => ?_) (fun hb H1 e1 => ?_)
    · rw [Bool.not_eq_true'] at hb
      exact qn hb H1 e1
    rw [Bool.not_eq_false'] at hb
    have ok1 := ok.ex e1
    refine q_fldP (K := K) (M := M) (P := (· = .list (S.map fun q => PyData.str q.1))) ?_ fun v1 d1 H2 e2 dv1 pd1 => ⟨p, C, dx, [], rfl, (e1.trans e2) _ _ hp, T.cl, T.n1, by decide, ?_⟩
    · refine (evd_lcL (fun _ => true) (fun d => .str (sgU d).1) ok1 (evd_var rfl (hv.ex e1)) hlen' fun M' d x H' hm ok' hd e dx Qg qg => ?_).mono fun d h => ?_
      · obtain ⟨p, hp, rfl⟩ := mem d hd
        exact qg _ H' (Ex.refl _) ⟨rfl, evt_yes, fun _ => evd_ixT (j := 0) (evd_var rfl dx) evd_int rfl rfl⟩
      · rw [h, filter_yes, List.map_map]
        rfl
    subst pd1
    cases dv1 with
    | lst g1 g2 g3 =>
    rename_i l1 xs1
    have g3 : xs1 = S.map fun q => V.str q.1 := by
      have := Dts.strs (S.map fun q => q.1) (by rw [List.map_map]; exact g3)
      rw [this, List.map_map]
      rfl
    subst g3
    have hp2 : H2 p = some (.ins C dx []) := (e1.trans e2) _ _ hp
    have hv3 := ((hv.ex (e1.trans e2)).updI (o := .ins C dx (putF "_names" (.ref l1) [])) hp2)
    have ok3 : Ok M (upd H2 p (.ins C dx (putF "_names" (.ref l1) []))) := fun l m => by
      by_cases e : l = p
      · rw [e, upd_same]
        simp
      · rw [upd_ne e]
        exact ok1.ex e2 l m
    refine s_fldP (K := K) (M := M) (P := (· = .list (S.map fun q => PyData.int q.2))) ?_ fun v2 d2 H3 e3 dv2 pd2 => ⟨p, C, dx, _, rfl, e3 _ _ upd_same, T.cl, T.n2, (by show 1 < 1000; decide), ?_⟩
    · refine (evd_lcL (fun _ => true) (fun d => .int (sgU d).2) ok3 (evd_var rfl hv3) hlen' fun M' d x H' hm ok' hd e dx Qg qg => ?_).mono fun d h => ?_
      · obtain ⟨p, hp, rfl⟩ := mem d hd
        exact qg _ H' (Ex.refl _) ⟨rfl, evt_yes, fun _ => evd_ixT (j := 1) (evd_var rfl dx) evd_int rfl rfl⟩
      · rw [h, filter_yes, List.map_map]
        rfl
    subst pd2
    cases dv2 with
    | lst k1 k2 k3 =>
    rename_i l2 xs2
    have k3 : xs2 = S.map fun q => V.int q.2 := by
      have := Dts.ints (S.map fun q => q.2) (by rw [List.map_map]; exact k3)
      rw [this, List.map_map]
      rfl
    subst k3
    have hp3 : H3 p = some (.ins C dx (putF "_names" (.ref l1) [])) := e3 _ _ upd_same
    have n1 : l1 ≠ p := ne_of g1 hp2 (by intro z; cases z)
    have n2 : l2 ≠ p := ne_of k1 hp3 (by intro z; cases z)
    refine qy hb _ ⟨dx, l1, l2, upd_same, ?_, g2, ?_, k2⟩ fun b o hb hbp => ?_
    · rw [upd_ne n1]
      exact e3 _ _ (by rw [upd_ne n1]; exact g1)
    · rw [upd_ne n2]
      exact k1
    · rw [upd_ne hbp]
      exact e3 _ _ (by rw [upd_ne hbp]; exact (e1.trans e2) _ _ hb)
end
end TH
set_option maxRecDepth 100000
set_option maxHeartbeats 4000000
namespace TH
open PySem L2 Evl
/-! ### what a Book tells -/
def numV (S : List Sg) (z : Str) : V := match S.findIdx? (fun q => decide (q.1 = z)) with
  | some j => .int j
  | none => .non
def spMany (C : Addr) : Sp := fun vs H Q _ => ∃ (M : Addr → Prop) (p : Addr) (S : List Sg), vs = [.ref p] ∧ BookAt C M H p S ∧ Q (.int S.length) H
def spNm (C : Addr) : Sp := fun vs H Q _ => ∃ (M : Addr → Prop) (p : Addr) (S : List Sg) (j : Nat) (q : Sg), vs = [.ref p, .int j] ∧ BookAt C M H p S ∧ S[j]? = some q ∧ Q (.str q.1) H
def spHas (C : Addr) : Sp := fun vs H Q _ => ∃ (M : Addr → Prop) (p : Addr) (S : List Sg) (z : Int), vs = [.ref p, .int z] ∧ BookAt C M H p S ∧ ∀ H', Ex H H' → Q (.bl (decide (0 ≤ z) && decide (z < (S.length : Int)))) H'
def spKd (C : Addr) : Sp := fun vs H Q _ => ∃ (M : Addr → Prop) (p : Addr) (S : List Sg) (j : Nat) (q : Sg), vs = [.ref p, .int j] ∧ BookAt C M H p S ∧ S[j]? = some q ∧ Q (.int q.2) H
def spNum (C : Addr) : Sp := fun vs H Q _ => ∃ (M : Addr → Prop) (p : Addr) (S : List Sg) (z : Str), vs = [.ref p, .str z] ∧ BookAt C M H p S ∧ ∀ H', Ex H H' → Q (numV S z) H'
def namesOk (S : List Sg) : Prop := ∀ q ∈ S, PyData.strOk q.1 = true
def spLike (C : Addr) : Sp := fun vs H Q _ => ∃ (M M' : Addr → Prop) (p p' : Addr) (S S' : List Sg), vs = [.ref p, .ref p'] ∧ BookAt C M H p S ∧ BookAt C M' H p' S' ∧ namesOk S ∧ namesOk S' ∧
  Q (.bl (decide (S.map (·.1) = S'.map (·.1)) && decide (S.map (·.2) = S'.map (·.2)))) H
theorem hu64 {A : Around} {k : Nat} (hr : Room k A) : A.units + 64 < cLine := by
  have := hr.un
  omega
theorem eqv_strs : ∀ zs ws : List Str, PyData.eqvAll (zs.map PyData.str) (ws.map PyData.str) = decide (zs = ws)
  | [], [] => by simp [PyData.eqvAll]
  | [], _ :: _ => by simp [PyData.eqvAll]
  | _ :: _, [] => by simp [PyData.eqvAll]
  | z :: zs, w :: ws => by
    rw [List.map_cons, List.map_cons, PyData.eqvAll, eqv_strs zs ws, PyData.eqv]
    by_cases h : z = w <;> by_cases h2 : zs = ws <;> simp [h, h2]
theorem eqv_ints : ∀ zs ws : List Int, PyData.eqvAll (zs.map PyData.int) (ws.map PyData.int) = decide (zs = ws)
  | [], [] => by simp [PyData.eqvAll]
  | [], _ :: _ => by simp [PyData.eqvAll]
  | _ :: _, [] => by simp [PyData.eqvAll]
  | z :: zs, w :: ws => by
    rw [List.map_cons, List.map_cons, PyData.eqvAll, eqv_ints zs ws, PyData.eqv]
    by_cases h : z = w <;> by_cases h2 : zs = ws <;> simp [h, h2]
theorem dpAll_strs {K : PySem.W.Frag} {H : Hp} : ∀ zs : List Str, DpAll K H (zs.map V.str) (zs.map PyData.str)
  | [] => .nil
  | z :: zs => .cons (.str z) (dpAll_strs zs)
theorem dpAll_ints {K : PySem.W.Frag} {H : Hp} : ∀ zs : List Int, DpAll K H (zs.map V.int) (zs.map PyData.int)
  | [] => .nil
  | z :: zs => .cons (.int z) (dpAll_ints zs)
theorem lay_strs : ∀ zs : List Str, (∀ z ∈ zs, PyData.strOk z = true) → PyData.canLayAll0 (zs.map PyData.str) = true
  | [], _ => rfl
  | z :: zs, h => by
    rw [List.map_cons, PyData.canLayAll0, PyData.canLay0, h z List.mem_cons_self, lay_strs zs fun y hy => h y (List.mem_cons_of_mem _ hy)]
    rfl
theorem lay_ints : ∀ zs : List Int, PyData.canLayAll0 (zs.map PyData.int) = true
  | [] => rfl
  | z :: zs => by
    rw [List.map_cons, PyData.canLayAll0, PyData.canLay0, lay_ints zs]
    rfl
theorem depth_strs : ∀ zs : List Str, PyData.depthAll (zs.map PyData.str) = 0
  | [] => rfl
  | z :: zs => by rw [List.map_cons, PyData.depthAll, PyData.depth, depth_strs zs]; rfl
theorem depth_ints : ∀ zs : List Int, PyData.depthAll (zs.map PyData.int) = 0
  | [] => rfl
  | z :: zs => by rw [List.map_cons, PyData.depthAll, PyData.depth, depth_ints zs]; rfl
theorem shaped_strs (zs : List Str) (h : ∀ z ∈ zs, PyData.strOk z = true) : SeqAt.shaped (.list (zs.map PyData.str)) = true := by
  unfold SeqAt.shaped
  rw [PyData.canLay0, lay_strs zs h, PyData.depth, depth_strs]
  rfl
theorem shaped_ints (zs : List Int) : SeqAt.shaped (.list (zs.map PyData.int)) = true := by
  unfold SeqAt.shaped
  rw [PyData.canLay0, lay_ints zs, PyData.depth, depth_ints]
  rfl
section
variable {P : Program} {w : World} {K : PySem.W.Frag} {mg : Str → Option Value} {base : Heap}
theorem scMany : FnScope ["self"] ["self"] (defScope sMany) := ⟨rfl, rfl, rfl, by decide +kernel, rfl, by decide +kernel, by decide +kernel⟩
theorem ok_many {f C : Addr} {fd : FuncData} (F : Fun K "many" "Book.many" sMany f fd) (G : GlobS mg) (T : BookT K mg C) : FnOk P w K mg base CX0 1 f fd ["self"] (spMany C) := by
  refine F.ok scMany (fun vs H Q E h => ?_) (fun cdv A outer s H vs Q E hr h => ?_)
  · obtain ⟨M, p, S, rfl, _⟩ := h
    rfl
  · obtain ⟨M, p, S, rfl, ⟨dx, l1, l2, h1, h2, h3, h4, h5⟩, q⟩ := h
    refine ⟨_, pss_one (ps_ret (pe_callB call_len_seq (by rfl) G.len PySem.boot_len (pa_cons (pe_fld (pv 0) rfl) pa_nil))), ?_⟩
    refine ⟨_, rfl, p, C, dx, _, _, rfl, h1, T.cl, T.n1, flds_names _ _, _, _, rfl, .inl (SqL.of h2), ?_⟩
    rw [List.length_map]
    exact q
theorem scHas : FnScope ["self", "sign"] ["self", "sign"] (defScope sHas) := ⟨rfl, rfl, rfl, by decide +kernel, rfl, by decide +kernel, by decide +kernel⟩
theorem ok_has {f C : Addr} {fd : FuncData} (F : Fun K "has" "Book.has" sHas f fd) (G : GlobS mg) (T : BookT K mg C) : FnOk P w K mg base CX0 1 f fd ["self", "sign"] (spHas C) := by
  refine F.ok scHas (fun vs H Q E h => ?_) (fun cdv A outer s H vs Q E hr h => ?_)
  · obtain ⟨M, p, S, z, rfl, _⟩ := h
    rfl
  · obtain ⟨M, p, S, z, rfl, ⟨dx, l1, l2, h1, h2, h3, h4, h5⟩, q⟩ := h
    refine ⟨_, pss_one (ps_ret (pe_chain op_le op_lt pe_int (pv 1) (pe_callB call_len_seq (by rfl) G.len PySem.boot_len (pa_cons (pe_fld (pv 0) rfl) pa_nil)))), ?_⟩
    refine s_retP (K := K) (M := M) (evd_chainI (j := z) (k := S.length) (g := fun i j => decide (i ≤ j)) (g' := fun i j => decide (i < j)) evd_int (evd_var rfl (.int z)) fun H1 e Q q => ?_) fun v d H2 e2 dv pd => ?_
    · refine ⟨_, rfl, p, C, dx, _, _, rfl, e _ _ h1, T.cl, T.n1, flds_names _ _, _, _, rfl, .inl (SqL.of (e _ _ h2)), ?_⟩
      rw [List.length_map]
      exact q _ _ H1 (Ex.refl _) (.int _) rfl
    · subst pd
      cases dv
      exact q H2 e2
theorem scNm : FnScope ["self", "sign"] ["self", "sign"] (defScope sNm) := ⟨rfl, rfl, rfl, by decide +kernel, rfl, by decide +kernel, by decide +kernel⟩
theorem ok_nm {f C : Addr} {fd : FuncData} (F : Fun K "name" "Book.name" sNm f fd) (T : BookT K mg C) : FnOk P w K mg base CX0 1 f fd ["self", "sign"] (spNm C) := by
  refine F.ok scNm (fun vs H Q E h => ?_) (fun cdv A outer s H vs Q E hr h => ?_)
  · obtain ⟨M, p, S, j, q, rfl, _⟩ := h
    rfl
  · obtain ⟨M, p, S, j, q, rfl, ⟨dx, l1, l2, h1, h2, h3, h4, h5⟩, hj, k⟩ := h
    refine ⟨_, pss_one (ps_ret (pe_ix ix_list (pe_fld (pv 0) rfl) (pv 1) (fun _ _ => rfl))), ?_⟩
    exact ⟨_, rfl, p, C, dx, _, _, rfl, h1, T.cl, T.n1, flds_names _ _, _, rfl, _, _, _, _, rfl, rfl, SqL.of h2, atI_nat (by rw [List.getElem?_map, hj]; rfl), k⟩
theorem scKd : FnScope ["self", "sign"] ["self", "sign"] (defScope sKd) := ⟨rfl, rfl, rfl, by decide +kernel, rfl, by decide +kernel, by decide +kernel⟩
theorem ok_kd {f C : Addr} {fd : FuncData} (F : Fun K "kids" "Book.kids" sKd f fd) (T : BookT K mg C) : FnOk P w K mg base CX0 1 f fd ["self", "sign"] (spKd C) := by
  refine F.ok scKd (fun vs H Q E h => ?_) (fun cdv A outer s H vs Q E hr h => ?_)
  · obtain ⟨M, p, S, j, q, rfl, _⟩ := h
    rfl
  · obtain ⟨M, p, S, j, q, rfl, ⟨dx, l1, l2, h1, h2, h3, h4, h5⟩, hj, k⟩ := h
    refine ⟨_, pss_one (ps_ret (pe_ix ix_list (pe_fld (pv 0) rfl) (pv 1) (fun _ _ => rfl))), ?_⟩
    exact ⟨_, rfl, p, C, dx, _, _, rfl, h1, T.cl, T.n2, flds_kids _ _, _, rfl, _, _, _, _, rfl, rfl, SqL.of h4, atI_nat (by rw [List.getElem?_map, hj]; rfl), k⟩
end
end TH
set_option maxRecDepth 100000
set_option maxHeartbeats 4000000
namespace TH
open PySem L2 Evl
section
variable {X : Cx} {K : PySem.W.Frag}
theorem pg_tupK {es : List Expr} {k : Nat} {t : TGs} {n : Nat} {pos : Pos} (hK : X.K = K) (hc : X.calm = true) (h : PGs X es t)
    (hn : (assignEach es X.env).length = n := by rfl) (hst : (assignEach es X.env).findIdx? (·.1) = none := by rfl) : PG X (.Tuple es k pos) (gTup K n t) := by
  subst hK
  exact pg_tup hc h hn hst
end
section
variable {K : PySem.W.Frag} {M : Addr → Prop} {H H1 H' : Hp} {σ : L2.St} {ta tb tc te tl : TE} {P : PyData → Prop}
/-- a draw -/
theorem evp_take {E : XK} {b : Addr} {n : Int} (hb : Ev tb σ H (.ref b)) (hx : H b = some (Box b)) (hn : EvD K M te σ H (.int n)) (n0 : 0 < n) (n1 : n.natAbs < 2 ^ 200) :
    EvP K M (tCall spTake [] E (tCons tb (tCons te tNil))) σ H (fun d => ∃ k : Int, d = .int k ∧ 0 ≤ k ∧ k < n) := fun H1 e Q q =>
  hb H1 e _ fun H2 e2 => hn H2 (e.trans e2) _ fun v d H3 e3 dv pd => by
    subst pd
    cases dv
    exact ⟨b, n, rfl, ((e.trans e2).trans e3) _ _ hx, n0, n1, fun k H4 k0 k1 e4 => q _ _ H4 ((e2.trans e3).trans e4) (.int k) ⟨k, rfl, k0, k1⟩⟩
/-- texts joined -/
theorem txt_join (ys : List Str) : (Txt.join "" ys).cps.toList = (ys.map fun y => y.cps.toList).flatten := by
  rw [TL.join_eq]
  have h : TL.tl (Str.join "" ys) = _ := TL.tl_join "" ys
  have e : TL.tl ("" : Str) = [] := by decide +kernel
  rw [e] at h
  refine h.trans ?_
  clear h
  induction ys with
  | nil => rfl
  | cons y ys ih =>
    cases ys with
    | nil =>
      show TL.tl y = y.cps.toList ++ []
      rw [List.append_nil]
    | cons z zs =>
      show TL.tl y ++ ([] ++ TL.joinL [] ((z :: zs).map TL.tl)) = y.cps.toList ++ _
      rw [ih]
      rfl
theorem evp_join {PY : List Str → Prop} (h : EvP K M te σ H (fun d => ∃ ys : List Str, d = .list (ys.map PyData.str) ∧ PY ys)) (hz : ∀ ys, PY ys → (ys.map (·.length)).sum ≤ 16777216) :
    EvP K M (tM1 (fun x xs H Q => ∃ a p, ∃ ys : List Str, x = .str a ∧ xs = [.ref p] ∧ (SqL K H p (ys.map V.str) ∨ SqT K H p (ys.map V.str)) ∧ (ys.map (·.length)).sum + ys.length * a.length ≤ 16777216 ∧ Q (.str (Txt.join a ys)) H) (tC (.str "")) te) σ H
      (fun d => ∃ ys, PY ys ∧ d = .str (Txt.join "" ys)) := fun H1 e Q q => ⟨⟨_, rfl⟩, h H1 e _ fun v d H2 e2 dv pd => by
    obtain ⟨ys, rfl, py⟩ := pd
    cases dv with
    | lst k1 k2 k3 =>
      have e := k3.strs
      subst e
      refine ⟨_, _, ys, rfl, rfl, .inl (sq_of k1), ?_, q _ _ H2 e2 (.str _) ⟨ys, py, rfl⟩⟩
      have e0 : ("" : Str).length = 0 := by decide +kernel
      rw [e0, Nat.mul_zero, Nat.add_zero]
      exact hz ys py⟩
/-- in, not in a list of texts -/
theorem inV_str (z : Str) (ys : List Str) : inV (.str z) (ys.map V.str) = decide (z ∈ ys) := by
  unfold inV
  rw [List.any_map, Bool.eq_iff_iff]
  simp only [List.any_eq_true, decide_eq_true_eq, Function.comp]
  constructor
  · rintro ⟨y, hy, h⟩
    have : y = z := by
      have h : (y == z) = true := h
      simpa using h
    subst this
    exact hy
  · intro h
    refine ⟨z, h, ?_⟩
    show (z == z) = true
    simp
theorem flat_strs (ys : List Str) : (ys.map V.str).all flatV = true := by
  rw [List.all_map, List.all_eq_true]
  intro y _
  rfl
theorem flat_ints (ys : List Int) : (ys.map V.int).all flatV = true := by
  rw [List.all_map, List.all_eq_true]
  intro y _
  rfl
theorem evd_notInS {z : Str} {ys : List Str} (ha : EvD K M ta σ H (.str z)) (hb : EvD K M tb σ H (.list (ys.map PyData.str))) : EvD K M (tOp (rIn K true) ta tb) σ H (.bool (!decide (z ∈ ys))) :=
  evp_op ha hb fun x y a b H1 e dx dy px py Q q => by
    subst px py
    cases dx
    cases dy with
    | lst k1 k2 k3 =>
      have e := k3.strs
      subst e
      refine ⟨_, _, rfl, .inl (sq_of k1), rfl, flat_strs ys, ?_⟩
      rw [inV_str]
      exact q _ _ H1 (Ex.refl _) (.bl _) rfl
theorem inV_int (z : Int) (ys : List Int) : inV (.int z) (ys.map V.int) = decide (z ∈ ys) := by
  unfold inV
  rw [List.any_map, Bool.eq_iff_iff]
  simp only [List.any_eq_true, decide_eq_true_eq, Function.comp]
  constructor
  · rintro ⟨y, hy, h⟩
    have : y = z := by
      have h : (y == z) = true := h
      simpa using h
    subst this
    exact hy
  · intro h
    refine ⟨z, h, ?_⟩
    show (z == z) = true
    simp
theorem evd_inI {z : Int} {ys : List Int} (ha : EvD K M ta σ H (.int z)) (hb : EvD K M tb σ H (.list (ys.map PyData.int))) : EvD K M (tOp (rIn K false) ta tb) σ H (.bool (decide (z ∈ ys))) :=
  evp_op ha hb fun x y a b H1 e dx dy px py Q q => by
    subst px py
    cases dx
    cases dy with
    | lst k1 k2 k3 =>
      have e := k3.ints
      subst e
      refine ⟨_, _, rfl, .inl (sq_of k1), rfl, flat_ints ys, ?_⟩
      rw [inV_int]
      exact q _ _ H1 (Ex.refl _) (.bl _) rfl
/-- min of a list of ints -/
theorem evp_min {ta : TA} {ns : List Int} (h : EvDA K M ta σ H [.list (ns.map PyData.int)]) (hn : 0 < ns.length) : EvP K M (tCB (rMin K) ta) σ H (fun d => ∃ m, d = .int m ∧ m ∈ ns ∧ ∀ y ∈ ns, m ≤ y) :=
  evp_cb h fun vs ds H1 e dv pd Q q => by
    subst pd
    cases dv with
    | cons h1 h2 =>
      cases h2
      cases h1 with
      | lst k1 k2 k3 =>
        have e := k3.ints
        subst e
        exact ⟨_, ns, rfl, sq_of k1, hn, fun m hm hl => q _ _ H1 (Ex.refl _) (.int m) ⟨m, rfl, hm, hl⟩⟩
/-- an int in a comparison, where the left one is not fixed -/
theorem evp_cmp {g : Int → Int → Bool} {PA PB : PyData → Prop} (ha : EvP K M ta σ H PA) (hb : EvP K M tb σ H PB) (hi : ∀ a, PA a → ∃ i, a = .int i) (hj : ∀ a, PB a → ∃ i, a = .int i) :
    EvP K M (tOp (rI0 fun i j => .bl (g i j)) ta tb) σ H (fun d => ∃ i j, PA (.int i) ∧ PB (.int j) ∧ d = .bool (g i j)) :=
  evp_I0 ha hb fun a b pa pb => by
    obtain ⟨i, rfl⟩ := hi a pa
    obtain ⟨j, rfl⟩ := hj b pb
    exact ⟨i, j, rfl, rfl, _, ⟨i, j, pa, pb, rfl⟩, fun _ => .bl _⟩
/-- a test that is one or the other -/
theorem EvP.test {D : Ends} {tu tw : TS} {tz : TS} {PB : Bool → Prop} (h : EvP K M te σ H (fun d => ∃ b, d = .bool b ∧ PB b)) (k : ∀ b H1, Ex H H1 → PB b → if b = true then tu { D with nx := tz D } σ H1 else tw { D with nx := tz D } σ H1) : tSeq (tIfS (tTest te) tu tw) tz D σ H :=
  h.use fun v d H1 e dv pd => by
    obtain ⟨b, rfl, pb⟩ := pd
    cases dv
    exact ⟨b, rfl, k b H1 e pb⟩
end
theorem EvPA.mono {K : PySem.W.Frag} {M : Addr → Prop} {ta : TA} {σ : L2.St} {H : Hp} {P Q : List PyData → Prop} (h : EvPA K M ta σ H P) (k : ∀ d, P d → Q d) : EvPA K M ta σ H Q := fun H1 e R q => h H1 e R fun v d H2 e2 hd hp => q v d H2 e2 hd (k d hp)
/-- nothing changes -/
abbrev MF : Addr → Prop := fun _ => False
theorem okF {H : Hp} : Ok MF H := fun _ h => h.elim
section
variable {K : PySem.W.Frag} {M : Addr → Prop} {H H' : Hp} {σ : L2.St} {te : TE} {P : PyData → Prop} {D : Ends} {tz : TS} {i i' : Nat} {l : Addr} {xs : List V}
/-- l.append(e) -/
theorem s_appP (hl : H l = some (.lst xs)) (hs : σ[i]? = some (some (.ref l))) (h : EvP K M te σ H P) (hz : xs.length < sizeLine) (k : ∀ v d H1, Ex H H1 → Dt K M H1 v d → P d → D.nx σ (upd H1 l (.lst (xs ++ [v])))) :
    tDrop (tBM K "list" rAppend (tVar i) (tCons te tNil)) D σ H :=
  ⟨_, hs, .inl ⟨rfl, _, SqL.of hl⟩, h.use fun v d H1 e dv pd => ⟨l, xs, v, rfl, rfl, e _ _ hl, hz, k v d H1 e dv pd⟩⟩
theorem q_appP (hl : H l = some (.lst xs)) (hs : σ[i]? = some (some (.ref l))) (h : EvP K M te σ H P) (hz : xs.length < sizeLine) (k : ∀ v d H1, Ex H H1 → Dt K M H1 v d → P d → tz D σ (upd H1 l (.lst (xs ++ [v])))) :
    tSeq (tDrop (tBM K "list" rAppend (tVar i) (tCons te tNil))) tz D σ H := s_appP (D := { D with nx := tz D }) hl hs h hz k
/-- l[j] = e -/
theorem s_setP {j : Nat} (hl : H l = some (.lst xs)) (hs : σ[i]? = some (some (.ref l))) (hj : σ[i']? = some (some (.int (j : Int)))) (hz : j < xs.length) (h : EvP K M te σ H P) (k : ∀ v d H1, Ex H H1 → Dt K M H1 v d → P d → D.nx σ (upd H1 l (.lst (xs.set j v)))) :
    tAsg te (gSub (tVar i) (tVar i') rSetL) D σ H := h.use fun v d H1 e dv pd => ⟨_, hs, _, hj, l, xs, j, j, rfl, rfl, e _ _ hl, ixN_nat hz, k v d H1 e dv pd⟩
end
/-- nothing but flat tuples and values -/
abbrev MT : Addr → Prop := fun _ => True
theorem Dts.flat {K : PySem.W.Frag} {M : Addr → Prop} {H : Hp} {vs : List V} {ds : List PyData} (h : Dts K MT H vs ds) : Dts K M H vs ds := h.weak fun _ _ => trivial
theorem Dt.flat {K : PySem.W.Frag} {M : Addr → Prop} {H : Hp} {v : V} {d : PyData} (h : Dt K MT H v d) : Dt K M H v d := h.weak fun _ _ => trivial
theorem sgs_flat {K : PySem.W.Frag} {M : Addr → Prop} {H : Hp} : ∀ {S : List Sg} {vs : List V}, Dts K M H vs (S.map sgD) → Dts K MT H vs (S.map sgD)
  | [], _, .nil => .nil
  | q :: S, _, .cons h t => by
    refine .cons ?_ (sgs_flat t)
    cases h with
    | tup h1 h2 =>
      cases h2 with
      | cons r1 r2 =>
        cases r1
        cases r2 with
        | cons r3 r4 =>
          cases r3
          cases r4
          exact .tup h1 (.cons (.str _) (.cons (.int _) .nil))
end TH
set_option maxRecDepth 100000
set_option maxHeartbeats 4000000
namespace TH
open PySem L2 Evl
abbrev sSigns : Stmt := top 31
/-! ### good books -/
structure NameOk (z : Str) : Prop where
  lo : 1 ≤ z.length
  hi : z.length ≤ 3
  az : ∀ c ∈ z.cps.toList, 97 ≤ c ∧ c ≤ 122
structure Good0 (S : List Sg) : Prop where
  len : S.length ≤ 6
  name : ∀ q ∈ S, NameOk q.1
  kids : ∀ q ∈ S, 0 ≤ q.2 ∧ q.2 ≤ 2
  nd : (S.map (·.1)).Nodup
structure Good (S : List Sg) : Prop extends Good0 S where
  ne : 1 ≤ S.length
  leaf : ∃ q ∈ S, q.2 = 0
theorem Good0.add {S : List Sg} {z : Str} {k : Int} (h : Good0 S) (hl : S.length < 6) (hz : NameOk z) (hk : 0 ≤ k ∧ k ≤ 2) (hn : z ∉ S.map (·.1)) : Good0 (S ++ [(z, k)]) := by
  refine ⟨by rw [List.length_append]; exact hl, fun q hq => ?_, fun q hq => ?_, ?_⟩
  · rcases List.mem_append.mp hq with hq | hq
    · exact h.name q hq
    · rw [List.mem_singleton.mp hq]
      exact hz
  · rcases List.mem_append.mp hq with hq | hq
    · exact h.kids q hq
    · rw [List.mem_singleton.mp hq]
      exact hk
  · rw [List.map_append, List.nodup_append]
    refine ⟨h.nd, by simp, fun a ha b hb => ?_⟩
    have : b = z := by simpa using hb
    rw [this]
    intro e
    rw [e] at ha
    exact hn ha
theorem Good0.zero {S : List Sg} {j : Nat} {q : Sg} (h : Good0 S) (hj : S[j]? = some q) : Good (S.set j (q.1, 0)) := by
  obtain ⟨hlt, rfl⟩ := List.getElem?_eq_some_iff.mp hj
  have hm : ∀ r ∈ S.set j (S[j].1, 0), r ∈ S ∨ r = (S[j].1, 0) := fun r hr => List.mem_or_eq_of_mem_set hr
  have em : (S.set j (S[j].1, 0)).map (·.1) = S.map (·.1) := by
    rw [List.map_set]
    exact List.set_getElem_self (as := S.map (·.1)) (by rw [List.length_map]; exact hlt) |> fun h => by rw [List.getElem_map] at h; exact h
  refine ⟨⟨by rw [List.length_set]; exact h.len, fun r hr => ?_, fun r hr => ?_, by rw [em]; exact h.nd⟩, by rw [List.length_set]; omega, (S[j].1, 0), ?_, rfl⟩
  · rcases hm r hr with hr | rfl
    · exact h.name r hr
    · exact h.name S[j] (List.getElem_mem hlt)
  · rcases hm r hr with hr | rfl
    · exact h.kids r hr
    · exact ⟨Int.le_refl _, (by show (0 : Int) ≤ 2; decide)⟩
  · exact List.mem_of_getElem? (i := j) (by rw [List.getElem?_set_self hlt])
/-- _law_signs -/
def spSigns (K : PySem.W.Frag) : Sp := fun vs H Q _ => ∃ b : Addr, vs = [.ref b] ∧ H b = some (Box b) ∧
  ∀ l xs S H', Good S → Ex H H' → H l = none → H' l = some (.lst xs) → Dts K MT H' xs (S.map sgD) → Q (.ref l) H'
structure GlobL (mg : Str → Option Value) : Prop extends GlobS mg where
  min : mg "min" = none
/-- one of the letters -/
theorem letter_at {k : Int} (h0 : 0 ≤ k) (h1 : k < 26) : ∃ c, atI ("abcdefghijklmnopqrstuvwxyz" : Str).cps.toList k = some c ∧ 97 ≤ c ∧ c ≤ 122 := by
  obtain ⟨j, rfl⟩ := Int.eq_ofNat_of_zero_le h0
  have hall : ∀ j : _root_.Fin 26, ∃ c, ("abcdefghijklmnopqrstuvwxyz" : Str).cps.toList[j.val]? = some c ∧ 97 ≤ c ∧ c ≤ 122 := by
    intro j
    have e : ("abcdefghijklmnopqrstuvwxyz" : Str).cps.toList = List.range' 97 26 := by decide +kernel
    rw [e, List.getElem?_range' (by exact j.isLt)]
    exact ⟨_, rfl, by omega, by have := j.isLt; omega⟩
  obtain ⟨c, hc, h⟩ := hall ⟨j, by omega⟩
  exact ⟨c, atI_nat hc, h⟩
theorem letters_len : ("abcdefghijklmnopqrstuvwxyz" : Str).length ≤ sizeLine := by
  have e : ("abcdefghijklmnopqrstuvwxyz" : Str).length = 26 := by decide +kernel
  rw [e]
  decide
theorem ones_name {ys : List Str} (h : ∀ y ∈ ys, ∃ c : Nat, y = ⟨#[c]⟩ ∧ 97 ≤ c ∧ c ≤ 122) (h1 : 1 ≤ ys.length) (h3 : ys.length ≤ 3) : NameOk (Txt.join "" ys) := by
  have e := txt_join ys
  have hl : (Txt.join "" ys).length = ys.length := by
    show (Txt.join "" ys).cps.size = _
    rw [← Array.length_toList, e]
    clear e h1 h3
    induction ys with
    | nil => rfl
    | cons y ys ih =>
      obtain ⟨c, rfl, _⟩ := h y List.mem_cons_self
      rw [List.map_cons, List.flatten_cons, List.length_append, ih fun z hz => h z (List.mem_cons_of_mem _ hz)]
      show 1 + ys.length = ys.length + 1
      omega
  refine ⟨by rw [hl]; exact h1, by rw [hl]; exact h3, fun c hc => ?_⟩
  rw [e] at hc
  obtain ⟨l, hl, hc⟩ := List.mem_flatten.mp hc
  obtain ⟨y, hy, rfl⟩ := List.mem_map.mp hl
  obtain ⟨d, rfl, hd⟩ := h y hy
  have : c = d := by simpa using hc
  rw [this]
  exact hd
section
variable {P : Program} {w : World} {K : PySem.W.Frag} {mg : Str → Option Value} {base : Heap}
abbrev nSigns : List Str := ["_law_box_here", "_law_letters", "_law_found", "_law_turn", "_law_name", "_law_spot", "_law_letter", "_law_one", "_law_kids"]
theorem scSigns : FnScope nSigns ["_law_box_here"] (defScope sSigns) := ⟨rfl, rfl, rfl, by decide +kernel, rfl, by decide +kernel, by decide +kernel⟩
theorem ok_signs {f fT : Addr} {fd fdT : FuncData} (F : Fun K "_law_signs" "_law_signs" sSigns f fd) (G : GlobL mg)
    (GT : FnOk P w K mg base CX0 2 fT fdT ["_law_box_here", "_law_count"] spTake) (FT : PySem.W.keepIn K (.ref fT) = true) (mT : mg "_law_take" = some (.ref fT)) (bT : Binds K fdT ["_law_box_here", "_law_count"] []) :
    FnOk P w K mg base CX0 3 f fd ["_law_box_here"] (spSigns K) := by
  refine F.ok scSigns (fun vs H Q E h => ?_) (fun cdv A outer s H vs Q E hr h => ?_)
  · obtain ⟨b, rfl, _⟩ := h
    rfl
  · obtain ⟨b, rfl, hb, q⟩ := h
    refine ⟨_, pss_cons (ps_asg (pe_tup (pa_cons pe_str (pa_cons (pe_lst pa_nil) pa_nil))) (pg_tup rfl (pgs_cons (pg_name (i := 1) scSigns.nd rfl (.inr rfl)) (pgs_cons (pg_name (i := 2) scSigns.nd rfl (.inl rfl)) pgs_nil))))
      (pss_cons (ps_for PassesOwn.never rfl (pi_range1 rfl G.range (pa_cons (pe_op op_add pe_int (pe_call GT hr rfl mT FT bT .nil pass0 (pa_cons (pv 0) (pa_cons pe_int pa_nil)))) pa_nil)) (pg_name (i := 3) scSigns.nd rfl (.inl rfl))
        (pss_cons (ps_set (i := 4) scSigns.nd rfl (.inl rfl) (pe_join pe_str (pe_lc (own := [("_law_letter", 6)]) (g := gName 6) (tt := tYes) rfl scSigns.nd
            (pi_range1 rfl G.range (pa_cons (pe_op op_add pe_int (pe_call GT hr rfl mT FT bT .nil pass0 (pa_cons (pv 0) (pa_cons pe_int pa_nil)))) pa_nil))
            (blkOk_by (N := nSigns) (sc := defScope sSigns) (by decide +kernel)) (fun _ _ _ _ _ => pg_name (i := 6) scSigns.nd rfl (.inl rfl)) (fun _ _ _ _ _ => pts_nil)
            (fun _ _ _ _ _ => pe_ix ix_str (pv 1) (pe_call GT hr rfl mT FT bT .nil pass0 (pa_cons (pv 0) (pa_cons pe_int pa_nil))) (fun _ _ => rfl)))))
        (pss_one (ps_if (pt_cmpR op_notIn_seq (pv 4) (pe_lc (own := [("_law_one", 7), ("_law_kids", 8)]) (tt := tYes) rfl scSigns.nd (pi_list (pv 2))
            (blkOk_by (N := nSigns) (sc := defScope sSigns) (by decide +kernel)) (fun _ _ _ _ _ => pg_tupK (K := K) (n := 2) rfl rfl (pgs_cons (pg_name (i := 7) scSigns.nd rfl (.inl rfl)) (pgs_cons (pg_name (i := 8) scSigns.nd rfl (.inl rfl)) pgs_nil))) (fun _ _ _ _ _ => pts_nil)
            (fun _ _ _ _ _ => pv 7)) (by rfl))
          (pss_one (ps_expr (pe_bm PySem.F.plainAttrs_list PySem.F.slot_list_append PySem.F.type_list_append mt_append (pv 2) (pa_cons (pe_tup (pa_cons (pv 4) (pa_cons (pe_call GT hr rfl mT FT bT .nil pass0 (pa_cons (pv 0) (pa_cons pe_int pa_nil))) pa_nil))) pa_nil)))) pss_nil))))
      (pss_cons (ps_set (i := 5) scSigns.nd rfl (.inl rfl) (pe_call GT hr rfl mT FT bT .nil pass0 (pa_cons (pv 0) (pa_cons (pe_callB call_len_seq (by rfl) G.len PySem.boot_len (pa_cons (pv 2) pa_nil)) pa_nil))))
      (pss_cons (ps_if (pt_cmpR op_gt (pe_callB (cr_min rfl) (by rfl) G.min (by decide +kernel) (pa_cons (pe_lc (own := [("_law_name", 4), ("_law_kids", 8)]) (tt := tYes) rfl scSigns.nd (pi_list (pv 2))
            (blkOk_by (N := nSigns) (sc := defScope sSigns) (by decide +kernel)) (fun _ _ _ _ _ => pg_tupK (K := K) (n := 2) rfl rfl (pgs_cons (pg_name (i := 4) scSigns.nd rfl (.inl rfl)) (pgs_cons (pg_name (i := 8) scSigns.nd rfl (.inl rfl)) pgs_nil))) (fun _ _ _ _ _ => pts_nil)
            (fun _ _ _ _ _ => pv 8)) pa_nil)) pe_int (nomark _))
          (pss_one (ps_asg (pe_tup (pa_cons (pe_ix ix_tup (pe_ix ix_list (pv 2) (pv 5) (fun _ _ => rfl)) pe_int (fun _ _ => rfl)) (pa_cons pe_int pa_nil))) (pg_sub (pv 2) (pv 5) set_list))) pss_nil)
      (pss_one (ps_ret (pv 2)))))), ?_⟩
    refine ⟨by decide, fun l hl => ⟨by show 2 ≤ sizeLine; decide, fun t ht => ⟨t, _, rfl, SqT.of upd_same, rfl, _, _, rfl, _, _, rfl, rfl, ?_⟩⟩⟩
    have e0 : Ex H (upd H l (.lst [])) := Ex.new hl
    have e1 : Ex H (upd (upd H l (.lst [])) t (.tup [.str "abcdefghijklmnopqrstuvwxyz", .ref l])) := e0.trans (Ex.new ht)
    have hl1 : (upd (upd H l (.lst [])) t (.tup [.str "abcdefghijklmnopqrstuvwxyz", .ref l])) l = some (.lst []) := by
      rw [upd_ne (ne_of_none upd_same ht)]
      exact upd_same
    generalize hG1 : upd (upd H l (.lst [])) t (.tup [.str "abcdefghijklmnopqrstuvwxyz", .ref l]) = H1 at e1 hl1
    -- for turn in range(1 + take(box, 6))
    refine ⟨_, rfl, b, 6, rfl, e1 _ _ hb, by decide, by decide, fun d6 H2 d60 d61 e2 => ⟨_, _, rfl, rfl, _, rfl, by omega, by omega, ?_⟩⟩
    refine for_range (lo := 0) (n := (1 + d6).toNat) (fun i σ' H' => Ex H H' ∧ ∃ xs S u v, σ' = [some (.ref b), some (.str "abcdefghijklmnopqrstuvwxyz"), some (.ref l), u, v, none, none, none, none] ∧ H' l = some (.lst xs) ∧ Dts K MT H' xs (S.map sgD) ∧ Good0 S ∧ S.length ≤ i ∧ (0 < i → 1 ≤ S.length))
      ⟨e1.trans e2, [], [], none, none, rfl, e2 _ _ hl1, .nil, ⟨by decide, fun _ h => (nomatch h), fun _ h => (nomatch h), List.nodup_nil⟩, Nat.le_refl _, fun h => absurd h (Nat.lt_irrefl _)⟩ ?_ ?_
    · rintro i σ' H3 hi ⟨e3, xs, S, u, v, rfl, hl3, dS, gS, lS, nS⟩
      have hb3 := e3 _ _ hb
      have hi6 : i < 6 := by omega
      -- the name
      refine q_asgP (K := K) (M := MF) (P := fun d => ∃ z, d = .str z ∧ NameOk z) ?_ fun vz dz H4 e4 dvz hz => ?_
      · refine (evp_join (PY := fun ys => (∀ y ∈ ys, ∃ c : Nat, y = ⟨#[c]⟩ ∧ 97 ≤ c ∧ c ≤ 122) ∧ 1 ≤ ys.length ∧ ys.length ≤ 3) ?_ fun ys hy => ?_).mono fun d ⟨ys, hy, e⟩ => ⟨_, e, ones_name hy.1 hy.2.1 hy.2.2⟩
        · refine (evp_lcR (PN := fun n => 1 ≤ n ∧ n ≤ 3) (fun _ => true) (fun _ d => ∃ c : Nat, d = .str ⟨#[c]⟩ ∧ 97 ≤ c ∧ c ≤ 122) okF ?_ (fun n hn => by omega) fun M' n j H' hm ok' pn hj e Qg qg => ?_).mono ?_
          · refine (evpa_cons (evp_I0 (P := fun d => ∃ n : Int, d = .int n ∧ 1 ≤ n ∧ n ≤ 3) evd_int (evp_take (ev_var rfl) hb3 evd_int (by decide) (by decide)) ?_) eva_nil).mono ?_
            · rintro a _ rfl ⟨k, rfl, k0, k1⟩
              exact ⟨1, k, rfl, rfl, _, ⟨1 + k, rfl, by omega, by omega⟩, fun _ => .int _⟩
            · rintro d ⟨a, ds, rfl, ⟨n, rfl, h⟩, rfl⟩
              exact ⟨n, rfl, h⟩
          · refine qg _ H' (Ex.refl _) ⟨rfl, evt_yes, fun _ => evp_op (evd_var rfl (.str _)) (evp_take (ev_var rfl) (e _ _ hb3) evd_int (by decide) (by decide)) fun x y a d H5 e5 dx dy px py Q q => ?_⟩
            obtain ⟨k, rfl, k0, k1⟩ := py
            subst px
            cases dx
            cases dy
            obtain ⟨c, hc, h⟩ := letter_at k0 k1
            exact ⟨_, k, c, rfl, rfl, letters_len, hc, q _ _ H5 (Ex.refl _) (.str _) ⟨c, rfl, h⟩⟩
          · rintro d ⟨n, es, pn, rfl, pr⟩
            rw [filter_yes] at pr
            have hlen := paired_len pr
            rw [List.length_range] at hlen
            have hm := paired_mem pr
            refine ⟨es.map fun d => match d with | .str z => z | _ => Str.empty, ?_, ?_, ?_, ?_⟩
            · congr 1
              rw [List.map_map]
              refine (List.map_id es).symm.trans (List.map_congr_left fun d hd => ?_)
              obtain ⟨_, _, c, rfl, _⟩ := hm d hd
              rfl
            · intro y hy
              obtain ⟨d, hd, rfl⟩ := List.mem_map.mp hy
              obtain ⟨_, _, c, rfl, h⟩ := hm d hd
              exact ⟨c, rfl, h⟩
            · rw [List.length_map]
              omega
            · rw [List.length_map]
              omega
        · have h1 : ∀ l : List Str, (∀ y ∈ l, ∃ c : Nat, y = ⟨#[c]⟩ ∧ 97 ≤ c ∧ c ≤ 122) → (l.map (·.length)).sum = l.length := by
            intro l
            induction l with
            | nil => intro _; rfl
            | cons y l ih =>
              intro h
              obtain ⟨c, rfl, _⟩ := h y List.mem_cons_self
              rw [List.map_cons, List.sum_cons, ih fun z hz => h z (List.mem_cons_of_mem _ hz), List.length_cons]
              show 1 + l.length = _
              omega
          rw [h1 ys hy.1]
          omega
      · obtain ⟨z, rfl, hz⟩ := hz
        cases dvz
        have hl4 := e4 _ _ hl3
        have dS4 := dS.ex e4
        have hb4 := e4 _ _ hb3
        -- if name not in [one for one, kids in found]
        refine s_when (evt_test (K := K) (M := MF) (evd_notInS (ys := S.map (·.1)) (evd_var rfl (.str z)) ?_)) (fun hn H5 e5 => ?_) (fun hn H5 e5 => ?_)
        · refine (evd_lcL (fun _ => true) (fun d => .str (sgU d).1) okF (evd_var rfl (.lst hl4 (fun h => h) dS4.flat)) (by rw [List.length_map]; exact Nat.lt_of_le_of_lt gS.len (by decide)) fun M' d x H' hm ok' hd e dx Qg qg => ?_).mono fun d h => ?_
          · obtain ⟨p, hp, rfl⟩ := List.mem_map.mp hd
            cases dx with
            | tup k1 k2 =>
              cases k2 with
              | cons r1 r2 =>
                cases r1
                cases r2 with
                | cons r3 r4 =>
                  cases r4
                  exact ⟨_, _, rfl, SqT.of k1, rfl, _, _, rfl, _, _, rfl, rfl, qg _ H' (Ex.refl _) ⟨rfl, evt_yes, fun _ => evd_var rfl (.str _)⟩⟩
          · rw [h, filter_yes, List.map_map, List.map_map]
            rfl
        · have hn' : z ∉ S.map (·.1) := by simpa using hn
          refine s_appP (K := K) (M := MT) (P := fun d => ∃ k : Int, d = .tuple [.str z, .int k] ∧ 0 ≤ k ∧ k < 3) (e5 _ _ hl4) rfl ?_ (Nat.lt_of_le_of_lt (by rw [dS.length, List.length_map]; exact gS.len) (by decide)) fun v d H6 e6 dv hd => ?_
          · refine (evp_tup (evpa_cons (evd_var rfl (.str z)) (evpa_cons (evp_take (ev_var rfl) (e5 _ _ hb4) evd_int (by decide) (by decide)) eva_nil)) ?_).mono ?_
            · rintro ds ⟨a, ds, rfl, rfl, c, ds', rfl, _, rfl⟩
              show 2 ≤ sizeLine
              decide
            · rintro d ⟨ds, rfl, a, ds, rfl, rfl, c, ds', rfl, ⟨k, rfl, h⟩, rfl⟩
              exact ⟨k, rfl, h⟩
          · obtain ⟨k, rfl, k0, k1⟩ := hd
            have hl6 := (e5.trans e6) _ _ hl4
            refine ⟨Ex.mut ((e3.trans e4).trans (e5.trans e6)) hl, xs ++ [v], S ++ [(z, k)], _, _, rfl, upd_same, ?_, gS.add (by omega) hz ⟨k0, by omega⟩ hn', ?_, fun _ => ?_⟩
            · rw [List.map_append]
              exact ((dS4.ex (e5.trans e6)).append (.one dv)).upd hl6 trivial
            · rw [List.length_append]
              exact Nat.succ_le_succ lS
            · rw [List.length_append]
              exact Nat.le_add_left _ _
        · have hn' : z ∈ S.map (·.1) := by simpa using hn
          refine ⟨(e3.trans e4).trans e5, xs, S, _, _, rfl, e5 _ _ hl4, dS4.ex e5, gS, Nat.le_succ_of_le lS, fun _ => ?_⟩
          obtain ⟨p, hp, _⟩ := List.mem_map.mp hn'
          exact List.length_pos_of_mem hp
    · rintro σ' H3 ⟨e3, xs, S, u, v, rfl, hl3, dS, gS, lS, nS⟩
      have ne : 1 ≤ S.length := nS (by omega)
      have hb3 := e3 _ _ hb
      -- spot
      refine q_asgP (K := K) (M := MF) (evp_take (n := ((S.map sgD).length : Int)) (ev_var rfl) hb3 (evd_lenL (eva_cons (evd_var rfl (.lst hl3 (fun h => h) dS.flat)) eva_nil)) (by rw [List.length_map]; omega) (by rw [List.length_map]; exact Nat.lt_of_le_of_lt (show ((S.length : Nat) : Int).natAbs ≤ 6 by have := gS.len; omega) (by decide))) fun vz dz H4 e4 dvz hz => ?_
      obtain ⟨k, rfl, k0, k1⟩ := hz
      cases dvz
      rw [List.length_map] at k1
      obtain ⟨j, rfl⟩ := Int.eq_ofNat_of_zero_le k0
      have hj : j < S.length := by omega
      have hl4 := e4 _ _ hl3
      have dS4 := dS.ex e4
      have e04 := e3.trans e4
      -- min
      refine EvP.test (K := K) (M := MF) (PB := fun b => (b = true → ∀ p ∈ S, 0 < p.2) ∧ (b = false → ∃ p ∈ S, p.2 = 0)) ?_ fun c H5 e5 hc => ?_
      · refine (evp_cmp (g := fun i j => decide (j < i)) (evp_min (ns := S.map (·.2)) (eva_cons ?_ eva_nil) (by rw [List.length_map]; exact ne)) evd_int (fun a ⟨m, e, _⟩ => ⟨m, e⟩) (fun a e => ⟨0, e⟩)).mono ?_
        · refine (evd_lcL (fun _ => true) (fun d => .int (sgU d).2) okF (evd_var rfl (.lst hl4 (fun h => h) dS4.flat)) (by rw [List.length_map]; exact Nat.lt_of_le_of_lt gS.len (by decide)) fun M' d x H' hm ok' hd e dx Qg qg => ?_).mono fun d h => ?_
          · obtain ⟨p, hp, rfl⟩ := List.mem_map.mp hd
            cases dx with
            | tup k1 k2 =>
              cases k2 with
              | cons r1 r2 =>
                cases r1
                cases r2 with
                | cons r3 r4 =>
                  cases r4
                  cases r3
                  exact ⟨_, _, rfl, SqT.of k1, rfl, _, _, rfl, _, _, rfl, rfl, qg _ H' (Ex.refl _) ⟨rfl, evt_yes, fun _ => evd_var rfl (.int _)⟩⟩
          · rw [h, filter_yes, List.map_map, List.map_map]
            rfl
        · rintro d ⟨m, z, ⟨m', em, hm, hall⟩, ez, rfl⟩
          cases em
          cases ez
          refine ⟨_, rfl, fun h p hp => ?_, fun h => ?_⟩
          · have h1 : 0 < m := of_decide_eq_true h
            exact Int.lt_of_lt_of_le h1 (hall _ (List.mem_map_of_mem hp))
          · have h1 : ¬ 0 < m := of_decide_eq_false h
            obtain ⟨p, hp, rfl⟩ := List.mem_map.mp hm
            exact ⟨p, hp, by have := (gS.kids p hp).1; omega⟩
      · have hl5 := e5 _ _ hl4
        have dS5 := dS4.ex e5
        cases c with
        | true =>
          have hjl : j < xs.length := by rw [dS.length, List.length_map]; exact hj
          have hSj : S[j]? = some S[j] := List.getElem?_eq_getElem hj
          refine iteT (s_setP (K := K) (M := MT) (P := (· = sgD (S[j].1, 0))) (j := j) hl5 rfl rfl hjl ?_ fun v d H6 e6 dv hd => ?_)
          · obtain ⟨vj, hvj, dvj⟩ := dS5.at (i := j) (d := sgD S[j]) (by rw [List.getElem?_map, hSj]; rfl)
            exact evd_tup (ds := [.str S[j].1, .int 0]) (eva_cons (evd_ixT (j := 0) (ds := [.str S[j].1, .int S[j].2]) (evd_of (ev_op (ev_var rfl) (ev_var rfl) (rv_ixL (sq_of hl5) (atI_nat hvj))) dvj) evd_int rfl rfl) (eva_cons evd_int eva_nil)) (by show 2 ≤ sizeLine; decide)
          · subst hd
            refine ⟨_, rfl, q l _ (S.set j (S[j].1, 0)) _ (gS.zero hSj) (Ex.mut ((e04.trans e5).trans e6) hl) hl upd_same ?_⟩
            rw [List.map_set]
            exact ((dS5.ex e6).set j dv).upd (e6 _ _ hl5) trivial
        | false =>
          exact iteF ⟨_, rfl, q l xs S H5 ⟨gS, ne, hc.2 rfl⟩ (e04.trans e5) hl hl5 dS5⟩
end
end TH
set_option maxRecDepth 100000
set_option maxHeartbeats 4000000
namespace TH
open PySem L2 Evl
/-- a method that keeps its promise -/
def OneM (P : Program) (w : World) (K : PySem.W.Frag) (mg : Str → Option Value) (base : Heap) (C : Addr) (m : Str) (k : Nat) (ps : List Str) (sp : Sp) : Prop :=
  ∃ (f : Addr) (fd : FuncData), Meth K C m f ∧ FnOk P w K mg base CX0 k f fd ps sp ∧ Binds K fd ps []
/-- a def that keeps its promise -/
def OneF (P : Program) (w : World) (K : PySem.W.Frag) (mg : Str → Option Value) (base : Heap) (x : Str) (k : Nat) (ps : List Str) (sp : Sp) : Prop :=
  ∃ (f : Addr) (fd : FuncData), mg x = some (.ref f) ∧ PySem.W.keepIn K (.ref f) = true ∧ FnOk P w K mg base CX0 k f fd ps sp ∧ Binds K fd ps []
end TH
namespace TH
/-! ### trees, their rows, their sizes -/
inductive Tr where
  | n0 (s : Nat)
  | n1 (s : Nat) (t : Tr)
  | n2 (s : Nat) (t u : Tr)
  deriving DecidableEq
namespace Tr
def root : Tr → Nat
  | n0 s => s
  | n1 s _ => s
  | n2 s _ _ => s
def kids : Tr → List Tr
  | n0 _ => []
  | n1 _ t => [t]
  | n2 _ t u => [t, u]
def row : Tr → List Nat
  | n0 s => [s]
  | n1 s t => s :: row t
  | n2 s t u => s :: (row t ++ row u)
def rowF (ts : List Tr) : List Nat := (ts.map row).flatten
def size (t : Tr) : Nat := t.row.length
def sizeF (ts : List Tr) : Nat := (rowF ts).length
def sizes : Tr → List Nat
  | n0 _ => [1]
  | n1 s t => (1 + size t) :: sizes t
  | n2 s t u => (1 + (size t + size u)) :: (sizes t ++ sizes u)
def sizesF (ts : List Tr) : List Nat := (ts.map sizes).flatten
theorem rowF_nil : rowF [] = [] := rfl
theorem rowF_cons (t : Tr) (ts : List Tr) : rowF (t :: ts) = t.row ++ rowF ts := by
  unfold rowF
  rw [List.map_cons, List.flatten_cons]
theorem rowF_app (ts us : List Tr) : rowF (ts ++ us) = rowF ts ++ rowF us := by
  unfold rowF
  rw [List.map_append, List.flatten_append]
theorem sizesF_cons (t : Tr) (ts : List Tr) : sizesF (t :: ts) = t.sizes ++ sizesF ts := by
  unfold sizesF
  rw [List.map_cons, List.flatten_cons]
theorem sizesF_app (ts us : List Tr) : sizesF (ts ++ us) = sizesF ts ++ sizesF us := by
  unfold sizesF
  rw [List.map_append, List.flatten_append]
theorem sizeF_cons (t : Tr) (ts : List Tr) : sizeF (t :: ts) = t.size + sizeF ts := by
  unfold sizeF size
  rw [rowF_cons, List.length_append]
theorem sizeF_app (ts us : List Tr) : sizeF (ts ++ us) = sizeF ts + sizeF us := by
  unfold sizeF
  rw [rowF_app, List.length_append]
theorem sizeF_nil : sizeF [] = 0 := rfl
theorem row_eq (t : Tr) : t.row = t.root :: rowF t.kids := by
  cases t with
  | n0 s => rfl
  | n1 s t => show s :: row t = s :: rowF [t]; rw [rowF_cons, rowF_nil, List.append_nil]
  | n2 s t u => show s :: (row t ++ row u) = s :: rowF [t, u]; rw [rowF_cons, rowF_cons, rowF_nil, List.append_nil]
theorem size_eq (t : Tr) : t.size = 1 + sizeF t.kids := by
  unfold size sizeF
  rw [row_eq, List.length_cons, Nat.add_comm]
theorem sizes_eq (t : Tr) : t.sizes = t.size :: sizesF t.kids := by
  cases t with
  | n0 s => rfl
  | n1 s t => 
    rw [size_eq]
    show (1 + size t) :: sizes t = (1 + sizeF [t]) :: sizesF [t]
    rw [sizeF_cons, sizesF_cons]
    show _ = (1 + (t.size + 0)) :: (t.sizes ++ [])
    rw [List.append_nil, Nat.add_zero]
  | n2 s t u => 
    rw [size_eq]
    show (1 + (size t + size u)) :: (sizes t ++ sizes u) = (1 + sizeF [t, u]) :: sizesF [t, u]
    rw [sizeF_cons, sizesF_cons, sizeF_cons, sizesF_cons]
    show _ = (1 + (t.size + (u.size + 0))) :: (t.sizes ++ (u.sizes ++ []))
    rw [List.append_nil, Nat.add_zero]
theorem kids_le (t : Tr) : t.kids.length ≤ 2 := by
  cases t with
  | n0 s => exact Nat.zero_le _
  | n1 s t => exact Nat.le_succ _
  | n2 s t u => exact Nat.le_refl _
theorem size_pos (t : Tr) : 0 < t.size := by
  rw [size_eq]
  omega
/-- an induction by kids -/
theorem ind {P : Tr → Prop} (h : ∀ t, (∀ k ∈ t.kids, P k) → P t) : ∀ t, P t
  | n0 s => h _ fun k hk => nomatch hk
  | n1 s t => by
    have h1 := ind h t
    refine h _ fun k hk => ?_
    rw [List.mem_singleton.mp hk]
    exact h1
  | n2 s t u => by
    have h1 := ind h t
    have h2 := ind h u
    refine h _ fun k hk => ?_
    rcases List.mem_cons.mp hk with hk | hk
    · rw [hk]
      exact h1
    · rw [List.mem_singleton.mp hk]
      exact h2
theorem sizes_len : ∀ t : Tr, t.sizes.length = t.size
  | n0 s => rfl
  | n1 s t => by
    rw [sizes_eq, List.length_cons, size_eq]
    show (sizesF [t]).length + 1 = 1 + sizeF [t]
    rw [sizesF_cons, sizeF_cons, List.length_append, sizes_len t]
    show t.size + 0 + 1 = 1 + (t.size + 0)
    omega
  | n2 s t u => by
    rw [sizes_eq, List.length_cons, size_eq]
    show (sizesF [t, u]).length + 1 = 1 + sizeF [t, u]
    rw [sizesF_cons, sizeF_cons, List.length_append, sizes_len t, sizesF_cons, sizeF_cons, List.length_append, sizes_len u]
    show t.size + (u.size + 0) + 1 = 1 + (t.size + (u.size + 0))
    omega
theorem sizesF_len (ts : List Tr) : (sizesF ts).length = sizeF ts := by
  induction ts with
  | nil => rfl
  | cons t ts ih => rw [sizesF_cons, sizeF_cons, List.length_append, ih, sizes_len]
/-- where the j-th of them begins -/
theorem sizesF_at {ts : List Tr} {j : Nat} {u : Tr} (h : ts[j]? = some u) (r : List Nat) : (sizesF ts ++ r)[sizeF (ts.take j)]? = some u.size := by
  induction ts generalizing j with
  | nil => cases h
  | cons t ts ih =>
    cases j with
    | zero =>
      have h : some t = some u := h
      cases h
      rw [sizesF_cons, sizes_eq]
      rfl
    | succ j =>
      have h : ts[j]? = some u := h
      rw [List.take_succ_cons, sizeF_cons, sizesF_cons, List.append_assoc, List.getElem?_append_right (by rw [sizes_len]; omega), sizes_len, Nat.add_sub_cancel_left]
      exact ih h
theorem take_snoc {α : Type} {ts : List α} {j : Nat} {u : α} (h : ts[j]? = some u) : ts.take (j + 1) = ts.take j ++ [u] := by
  rw [List.take_add_one, h]
  rfl
theorem sizeF_take {ts : List Tr} {j : Nat} {u : Tr} (h : ts[j]? = some u) : sizeF (ts.take (j + 1)) = sizeF (ts.take j) + u.size := by
  rw [take_snoc h, sizeF_app, sizeF_cons, sizeF_nil, Nat.add_zero]
theorem rowF_drop {ts : List Tr} {j : Nat} : (rowF ts).drop (sizeF (ts.take j)) = rowF (ts.drop j) := by
  have e : rowF ts = rowF (ts.take j) ++ rowF (ts.drop j) := by rw [← rowF_app, List.take_append_drop]
  rw [e]
  exact List.drop_left
/-! ### what is left of a wood from the n-th sign on -/
def next : List Tr → List Tr
  | [] => []
  | t :: ts => t.kids ++ ts
def suf : Nat → List Tr → List Tr
  | 0, ts => ts
  | n + 1, ts => suf n (next ts)
theorem rowF_next (ts : List Tr) : rowF (next ts) = (rowF ts).drop 1 := by
  cases ts with
  | nil => rfl
  | cons t ts =>
    show rowF (t.kids ++ ts) = _
    rw [rowF_app, rowF_cons, row_eq]
    rfl
theorem rowF_suf (n : Nat) : ∀ ts : List Tr, rowF (suf n ts) = (rowF ts).drop n := by
  induction n with
  | zero => intro ts; rfl
  | succ n ih =>
    intro ts
    show rowF (suf n (next ts)) = _
    rw [ih, rowF_next, List.drop_drop, Nat.add_comm]
theorem suf_succ (n : Nat) : ∀ ts : List Tr, suf (n + 1) ts = next (suf n ts) := by
  induction n with
  | zero => intro ts; rfl
  | succ n ih =>
    intro ts
    show suf (n + 1) (next ts) = next (suf n (next ts))
    exact ih _
theorem suf_add (m n : Nat) (ts : List Tr) : suf (m + n) ts = suf n (suf m ts) := by
  induction n with
  | zero => rfl
  | succ n ih => rw [← Nat.add_assoc, suf_succ, suf_succ, ih]
theorem rowF_empty {ts : List Tr} : rowF ts = [] ↔ ts = [] := by
  cases ts with
  | nil => exact ⟨fun _ => rfl, fun _ => rfl⟩
  | cons t ts =>
    rw [rowF_cons, row_eq]
    exact ⟨fun h => by simp at h, fun h => by simp at h⟩
theorem suf_nil {n : Nat} {ts : List Tr} : suf n ts = [] ↔ sizeF ts ≤ n := by
  rw [← rowF_empty, rowF_suf, List.drop_eq_nil_iff]
  rfl
theorem suf_cons {n : Nat} {ts : List Tr} (h : n < sizeF ts) : ∃ u us, suf n ts = u :: us ∧ (rowF ts)[n]? = some u.root := by
  cases e : suf n ts with
  | nil => exact absurd (suf_nil.mp e) (by omega)
  | cons u us =>
    refine ⟨u, us, rfl, ?_⟩
    have q := rowF_suf n ts
    rw [e, rowF_cons, row_eq] at q
    have q2 : ((rowF ts).drop n)[0]? = some u.root := by rw [← q]; rfl
    rwa [List.getElem?_drop, Nat.add_zero] at q2
theorem row_one (t : Tr) : rowF [t] = t.row := by rw [rowF_cons, rowF_nil, List.append_nil]
theorem size_one (t : Tr) : sizeF [t] = t.size := by rw [sizeF_cons, sizeF_nil, Nat.add_zero]
theorem sizes_one (t : Tr) : sizesF [t] = t.sizes := by rw [sizesF_cons]; exact List.append_nil _
/-- past the whole of a wood -/
theorem suf_app (ts us : List Tr) : suf (sizeF ts) (ts ++ us) = us := by
  have key : ∀ n : Nat, ∀ ts : List Tr, sizeF ts = n → suf n (ts ++ us) = us := by
    intro n
    induction n with
    | zero =>
      intro ts h
      have : ts = [] := by
        have := (suf_nil (n := 0) (ts := ts)).mpr (by omega)
        exact this
      rw [this]
      rfl
    | succ n ih =>
      intro ts h
      cases ts with
      | nil => rw [sizeF_nil] at h; omega
      | cons t ts =>
        show suf n (next (t :: (ts ++ us))) = us
        show suf n (t.kids ++ (ts ++ us)) = us
        rw [← List.append_assoc]
        refine ih _ ?_
        rw [sizeF_cons, size_eq] at h
        rw [sizeF_app]
        omega
  exact key _ ts rfl
theorem suf_in (n : Nat) : ∀ (ts us : List Tr), n ≤ sizeF ts → suf n (ts ++ us) = suf n ts ++ us := by
  induction n with
  | zero => intro ts us _; rfl
  | succ n ih =>
    intro ts us h
    cases ts with
    | nil => rw [sizeF_nil] at h; omega
    | cons t ts =>
      show suf n (t.kids ++ (ts ++ us)) = suf n (t.kids ++ ts) ++ us
      rw [← List.append_assoc]
      refine ih _ _ ?_
      rw [sizeF_cons, size_eq] at h
      rw [sizeF_app]
      omega
/-- the j-th kid of what stands at p -/
theorem suf_kid {n j : Nat} {ts us : List Tr} {u k : Tr} (h : suf n ts = u :: us) (hk : u.kids[j]? = some k) : suf (n + 1 + sizeF (u.kids.take j)) ts = k :: (u.kids.drop (j + 1) ++ us) := by
  rw [suf_add, suf_succ, h]
  show suf (sizeF (u.kids.take j)) (u.kids ++ us) = _
  obtain ⟨hlt, e⟩ := List.getElem?_eq_some_iff.mp hk
  have e2 : u.kids ++ us = u.kids.take j ++ (u.kids.drop j ++ us) := by rw [← List.append_assoc, List.take_append_drop]
  rw [e2, suf_app, List.drop_eq_getElem_cons hlt, e]
  rfl
/-- a part's row within the whole one -/
theorem suf_row {n : Nat} {ts us : List Tr} {u : Tr} (h : suf n ts = u :: us) : ((rowF ts).drop n).take u.size = u.row ∧ n + u.size ≤ sizeF ts ∧ (rowF ts).drop (n + u.size) = rowF us := by
  have e : (rowF ts).drop n = u.row ++ rowF us := by rw [← rowF_suf, h, rowF_cons]
  have hl : (rowF ts).length - n = u.size + (rowF us).length := by
    have := congrArg List.length e
    rwa [List.length_drop, List.length_append] at this
  have hp := size_pos u
  refine ⟨by rw [e]; exact List.take_left, by unfold sizeF; omega, ?_⟩
  rw [← List.drop_drop, e]
  exact List.drop_left
theorem sizesF_next (ts : List Tr) : sizesF (next ts) = (sizesF ts).drop 1 := by
  cases ts with
  | nil => rfl
  | cons t ts =>
    show sizesF (t.kids ++ ts) = _
    rw [sizesF_app, sizesF_cons, sizes_eq]
    rfl
theorem sizesF_suf (n : Nat) : ∀ ts : List Tr, sizesF (suf n ts) = (sizesF ts).drop n := by
  induction n with
  | zero => intro ts; rfl
  | succ n ih =>
    intro ts
    show sizesF (suf n (next ts)) = _
    rw [ih, sizesF_next, List.drop_drop, Nat.add_comm]
theorem sizes_at {n : Nat} {t u : Tr} {us : List Tr} (h : suf n [t] = u :: us) : t.sizes[n]? = some u.size := by
  have q := sizesF_suf n [t]
  rw [h, sizes_one, sizesF_cons, sizes_eq u] at q
  have q2 : ((t.sizes).drop n)[0]? = some u.size := by rw [← q]; rfl
  rwa [List.getElem?_drop, Nat.add_zero] at q2
theorem row_at {n : Nat} {t u : Tr} {us : List Tr} (h : suf n [t] = u :: us) : t.row[n]? = some u.root := by
  have q := rowF_suf n [t]
  rw [h, row_one, rowF_cons, row_eq u] at q
  have q2 : ((t.row).drop n)[0]? = some u.root := by rw [← q]; rfl
  rwa [List.getElem?_drop, Nat.add_zero] at q2
/-! ### rows that are rows of trees -/
/-- the trees of a book: each sign with as many kids as the book says -/
def Ok (n : Nat) (ar : Nat → Nat) : Tr → Prop
  | n0 s => s < n ∧ ar s = 0
  | n1 s t => s < n ∧ ar s = 1 ∧ Ok n ar t
  | n2 s t u => s < n ∧ ar s = 2 ∧ Ok n ar t ∧ Ok n ar u
variable {n : Nat} {ar : Nat → Nat}
theorem Ok.root {t : Tr} (h : Ok n ar t) : t.root < n := by
  cases t with
  | n0 s => exact h.1
  | n1 s t => exact h.1
  | n2 s t u => exact h.1
theorem Ok.kids {t : Tr} (h : Ok n ar t) : ∀ k ∈ t.kids, Ok n ar k := by
  cases t with
  | n0 s => intro k hk; cases hk
  | n1 s t =>
    intro k hk
    rw [List.mem_singleton.mp hk]
    exact h.2.2
  | n2 s t u =>
    intro k hk
    rcases List.mem_cons.mp hk with rfl | hk
    · exact h.2.2.1
    · rw [List.mem_singleton.mp hk]
      exact h.2.2.2
theorem Ok.ark {t : Tr} (h : Ok n ar t) : ar t.root = t.kids.length := by
  cases t with
  | n0 s => exact h.2
  | n1 s t => exact h.2.1
  | n2 s t u => exact h.2.1
theorem okF_next {ts : List Tr} (h : ∀ t ∈ ts, Ok n ar t) : ∀ t ∈ next ts, Ok n ar t := by
  cases ts with
  | nil => exact h
  | cons t ts =>
    intro u hu
    rcases List.mem_append.mp hu with hu | hu
    · exact (h t List.mem_cons_self).kids u hu
    · exact h u (List.mem_cons_of_mem _ hu)
theorem okF_suf (m : Nat) : ∀ {ts : List Tr}, (∀ t ∈ ts, Ok n ar t) → ∀ t ∈ suf m ts, Ok n ar t := by
  induction m with
  | zero => intro ts h; exact h
  | succ m ih => intro ts h; exact ih (okF_next h)
/-- the count of trees that are due -/
def run (n : Nat) (ar : Nat → Nat) : Nat → List Nat → Option Nat
  | d, [] => some d
  | d, s :: r => if d = 0 then none else if s < n then run n ar (d - 1 + ar s) r else none
theorem run_app (r1 r2 : List Nat) : ∀ {d e : Nat}, run n ar d r1 = some e → run n ar d (r1 ++ r2) = run n ar e r2 := by
  induction r1 with
  | nil =>
    intro d e h
    cases h
    rfl
  | cons s r ih =>
    intro d e h
    rw [run] at h
    rw [List.cons_append, run]
    split at h
    · cases h
    · split at h
      · rename_i h1 h2
        rw [if_neg h1, if_pos h2]
        exact ih h
      · cases h
theorem run_snoc {r : List Nat} {d e s : Nat} (h : run n ar d r = some e) (he : 0 < e) (hs : s < n) : run n ar d (r ++ [s]) = some (e - 1 + ar s) := by
  rw [run_app r [s] h, run, if_neg (by omega), if_pos hs, run]
/-- a row without any due is the row of a tree -/
theorem run_wood (ha : ∀ s, ar s ≤ 2) : ∀ (r : List Nat) (d : Nat), run n ar d r = some 0 → ∃ ts : List Tr, ts.length = d ∧ (∀ t ∈ ts, Ok n ar t) ∧ rowF ts = r
  | [], d, h => by
    cases h
    exact ⟨[], rfl, fun t ht => (nomatch ht), rfl⟩
  | s :: r, d, h => by
    rw [run] at h
    split at h
    · cases h
    · split at h
      · rename_i h1 h2
        obtain ⟨ts, hl, ho, hr⟩ := run_wood ha r _ h
        have h3 := ha s
        rcases (show ar s = 0 ∨ ar s = 1 ∨ ar s = 2 by omega) with e | e | e
        · refine ⟨n0 s :: ts, by rw [List.length_cons]; omega, fun t ht => ?_, ?_⟩
          · rcases List.mem_cons.mp ht with rfl | ht
            · exact ⟨h2, e⟩
            · exact ho t ht
          · rw [rowF_cons, hr]
            rfl
        · match ts, hl, ho, hr with
          | a :: us, hl, ho, hr =>
            refine ⟨n1 s a :: us, by rw [List.length_cons] at hl ⊢; omega, fun t ht => ?_, ?_⟩
            · rcases List.mem_cons.mp ht with rfl | ht
              · exact ⟨h2, e, ho a List.mem_cons_self⟩
              · exact ho t (List.mem_cons_of_mem _ ht)
            · rw [rowF_cons] at hr ⊢
              rw [← hr]
              rfl
          | [], hl, _, _ => rw [List.length_nil] at hl; omega
        · match ts, hl, ho, hr with
          | a :: b :: us, hl, ho, hr =>
            refine ⟨n2 s a b :: us, by rw [List.length_cons, List.length_cons] at hl; rw [List.length_cons]; omega, fun t ht => ?_, ?_⟩
            · rcases List.mem_cons.mp ht with rfl | ht
              · exact ⟨h2, e, ho a List.mem_cons_self, ho b (List.mem_cons_of_mem _ List.mem_cons_self)⟩
              · exact ho t (List.mem_cons_of_mem _ (List.mem_cons_of_mem _ ht))
            · rw [rowF_cons, rowF_cons] at hr
              rw [rowF_cons, ← hr, row, List.cons_append, List.append_assoc]
          | [], hl, _, _ => rw [List.length_nil] at hl; omega
          | [_], hl, _, _ => rw [List.length_cons, List.length_nil] at hl; omega
      · cases h
theorem run_rowF : ∀ (m : Nat) (ts : List Tr), sizeF ts ≤ m → (∀ t ∈ ts, Ok n ar t) → run n ar ts.length (rowF ts) = some 0
  | m, [], _, _ => rfl
  | 0, t :: ts, hm, _ => by
    rw [sizeF_cons] at hm
    have := size_pos t
    omega
  | m + 1, t :: ts, hm, ho => by
    have ht := ho t List.mem_cons_self
    rw [rowF_cons, row_eq, List.cons_append, run, if_neg (by rw [List.length_cons]; omega), if_pos ht.root, ht.ark, ← rowF_app, List.length_cons]
    have e : ts.length + 1 - 1 + t.kids.length = (t.kids ++ ts).length := by rw [List.length_append]; omega
    rw [e]
    refine run_rowF m _ ?_ fun u hu => ?_
    · rw [sizeF_cons, size_eq] at hm
      rw [sizeF_app]
      omega
    · rcases List.mem_append.mp hu with hu | hu
      · exact ht.kids u hu
      · exact ho u (List.mem_cons_of_mem _ hu)
theorem run_row {t : Tr} (h : Ok n ar t) : run n ar 1 t.row = some 0 := by
  have := run_rowF (n := n) (ar := ar) _ [t] (Nat.le_refl _) fun u hu => by rw [List.mem_singleton.mp hu]; exact h
  rwa [row_one] at this
theorem run_tree (ha : ∀ s, ar s ≤ 2) {r : List Nat} (h : run n ar 1 r = some 0) : ∃ t, Ok n ar t ∧ t.row = r := by
  obtain ⟨ts, hl, ho, hr⟩ := run_wood ha r 1 h
  match ts, hl with
  | [t], _ => exact ⟨t, ho t List.mem_cons_self, by rw [← hr, row_one]⟩
theorem row_lt {t : Tr} (h : Ok n ar t) : ∀ s ∈ t.row, s < n := by
  intro s hs
  obtain ⟨j, hj⟩ := List.mem_iff_getElem?.mp hs
  have hlt : j < sizeF [t] := by
    rw [size_one]
    exact (List.getElem?_eq_some_iff.mp hj).1
  obtain ⟨u, us, e, er⟩ := suf_cons hlt
  rw [row_one, hj] at er
  cases er
  exact (okF_suf j (ts := [t]) (fun v hv => by rw [List.mem_singleton.mp hv]; exact h) u (by rw [e]; exact List.mem_cons_self)).root
end Tr
end TH
set_option maxRecDepth 100000
set_option maxHeartbeats 4000000
namespace TH
open PySem L2 Evl
/-! ### books and rows -/
/-- how many kids the j-th sign has -/
def ks (S : List Sg) (j : Nat) : Nat := match S[j]? with
  | some q => q.2.toNat
  | none => 0
def KidsOk (S : List Sg) : Prop := ∀ q ∈ S, 0 ≤ q.2 ∧ q.2 ≤ 2
theorem ks_of {S : List Sg} {j : Nat} {q : Sg} (h : S[j]? = some q) : ks S j = q.2.toNat := by
  unfold ks
  rw [h]
theorem ks_le {S : List Sg} (h : KidsOk S) (j : Nat) : ks S j ≤ 2 := by
  unfold ks
  split
  · rename_i q e
    have := h q (List.mem_of_getElem? e)
    omega
  · exact Nat.zero_le _
theorem Good.kidsOk {S : List Sg} (h : Good S) : KidsOk S := h.kids
abbrev OkT (S : List Sg) (t : Tr) : Prop := Tr.Ok S.length (ks S) t
/-- a tuple, a list of ints -/
def tupI (ns : List Int) : PyData := .tuple (ns.map PyData.int)
def ofN (r : List Nat) : List Int := r.map fun (s : Nat) => (s : Int)
theorem ofN_len (r : List Nat) : (ofN r).length = r.length := List.length_map _
theorem ofN_at {r : List Nat} {j s : Nat} (h : r[j]? = some s) : (ofN r)[j]? = some (s : Int) := by
  unfold ofN
  rw [List.getElem?_map, h]
  rfl
def rowD (t : Tr) : PyData := tupI (ofN t.row)
section
variable {K : PySem.W.Frag} {M M' : Addr → Prop} {H H1 H' : Hp} {σ : L2.St} {ta tb te tc : TE} {v : V} {ns : List Int}
theorem dt_tupS (h : Dt K M H v (tupI ns)) : ∃ a, v = .ref a ∧ H a = some (.tup (ns.map V.int)) := by
  unfold tupI at h
  cases h with
  | tup h1 h2 =>
    rw [h2.ints] at h1
    exact ⟨_, rfl, h1⟩
theorem dt_tup (h : Dt K M H v (tupI ns)) : ∃ a, v = .ref a ∧ SqT K H a (ns.map V.int) := by
  obtain ⟨a, e, h1⟩ := dt_tupS h
  exact ⟨a, e, SqT.of h1⟩
theorem dt_of_tup {a : Addr} (h : H a = some (.tup (ns.map V.int))) : Dt K M H (.ref a) (tupI ns) := .tup h (Dts.of_ints ns)
theorem dt_any (h : Dt K M H v (tupI ns)) : Dt K M' H v (tupI ns) := by
  obtain ⟨a, rfl, h1⟩ := dt_tupS h
  exact dt_of_tup h1
/-! ### the book asked -/
theorem evd_many {C p : Addr} {S : List Sg} {i : Nat} {E : XK} (hs : σ[i]? = some (some (.ref p))) (hB : BookAt C M H p S) : EvD K M' (tMeth C "many" (spMany C) [] E (tVar i) tNil) σ H (.int S.length) := fun H1 e Q q => by
  have h := hB.ex e
  have h' := h
  obtain ⟨dx, l1, l2, h1, _⟩ := h'
  exact ⟨_, hs, p, dx, _, rfl, h1, flds_no _ _ (by decide +kernel) (by decide +kernel), M, p, S, rfl, h, q _ _ H1 (Ex.refl _) (.int _) rfl⟩
theorem evd_has {C p : Addr} {S : List Sg} {i : Nat} {z : Int} {E : XK} (hs : σ[i]? = some (some (.ref p))) (hB : BookAt C M H p S) (ha : EvD K M' ta σ H (.int z)) :
    EvD K M' (tMeth C "has" (spHas C) [] E (tVar i) (tCons ta tNil)) σ H (.bool (decide (0 ≤ z) && decide (z < (S.length : Int)))) := fun H1 e Q q => by
  have h := hB.ex e
  have h' := h
  obtain ⟨dx, l1, l2, h1, _⟩ := h'
  refine ⟨_, hs, p, dx, _, rfl, h1, flds_no _ _ (by decide +kernel) (by decide +kernel), ha H1 e _ fun v d H2 e2 dv pd => ?_⟩
  subst pd
  cases dv
  exact ⟨M, p, S, z, rfl, h.ex e2, fun H3 e3 => q _ _ H3 (e2.trans e3) (.bl _) rfl⟩
theorem evd_kids {C p : Addr} {S : List Sg} {i j : Nat} {z : Int} {r : Sg} {E : XK} (hs : σ[i]? = some (some (.ref p))) (hB : BookAt C M H p S) (ha : EvD K M' ta σ H (.int z)) (hz : z = (j : Int)) (hj : S[j]? = some r) :
    EvD K M' (tMeth C "kids" (spKd C) [] E (tVar i) (tCons ta tNil)) σ H (.int r.2) := fun H1 e Q q => by
  have h := hB.ex e
  have h' := h
  obtain ⟨dx, l1, l2, h1, _⟩ := h'
  refine ⟨_, hs, p, dx, _, rfl, h1, flds_no _ _ (by decide +kernel) (by decide +kernel), ha H1 e _ fun v d H2 e2 dv pd => ?_⟩
  subst pd
  cases dv
  subst hz
  exact ⟨M, p, S, j, r, rfl, h.ex e2, hj, q _ _ H2 e2 (.int _) rfl⟩
end
structure BookK (P : Program) (w : World) (K : PySem.W.Frag) (mg : Str → Option Value) (base : Heap) (C : Addr) : Prop where
  T : BookT K mg C
  many : OneM P w K mg base C "many" 1 ["self"] (spMany C)
  kids : OneM P w K mg base C "kids" 1 ["self", "sign"] (spKd C)
/-! ### is_row -/
def runB (S : List Sg) : Nat → List Int → Bool
  | d, [] => decide (d = 0)
  | d, z :: r => if d = 0 then false else if 0 ≤ z ∧ z < S.length then runB S (d - 1 + ks S z.toNat) r else false
theorem runB_run {S : List Sg} : ∀ (r : List Nat) (d : Nat), runB S d (ofN r) = decide (Tr.run S.length (ks S) d r = some 0)
  | [], d => by
    show decide (d = 0) = decide (some d = some 0)
    simp
  | s :: r, d => by
    show runB S d ((s : Int) :: ofN r) = _
    rw [runB, Tr.run]
    by_cases h : d = 0
    · rw [if_pos h, if_pos h]
      rfl
    · rw [if_neg h, if_neg h]
      by_cases h2 : s < S.length
      · rw [if_pos ⟨by omega, by omega⟩, if_pos h2]
        exact runB_run r _
      · rw [if_neg (by omega), if_neg h2]
        rfl
theorem runB_row {S : List Sg} {t : Tr} (h : OkT S t) : runB S 1 (ofN t.row) = true := by
  rw [runB_run, decide_eq_true_eq]
  exact Tr.run_row h
/-- a row of ints without any due is the row of a tree -/
theorem runB_tree {S : List Sg} (hk : KidsOk S) {ns : List Int} (h : runB S 1 ns = true) : ∃ t, OkT S t ∧ ns = ofN t.row := by
  have hn : ∀ (ns : List Int) (d : Nat), runB S d ns = true → ∃ r : List Nat, ns = ofN r := by
    intro ns
    induction ns with
    | nil => exact fun d _ => ⟨[], rfl⟩
    | cons z ns ih =>
      intro d h
      rw [runB] at h
      split at h
      · cases h
      · split at h
        · rename_i h2
          obtain ⟨r, rfl⟩ := ih _ h
          refine ⟨z.toNat :: r, ?_⟩
          show z :: ofN r = (z.toNat : Int) :: ofN r
          rw [Int.toNat_of_nonneg h2.1]
        · cases h
  obtain ⟨r, rfl⟩ := hn ns 1 h
  rw [runB_run, decide_eq_true_eq] at h
  obtain ⟨t, ht, rfl⟩ := Tr.run_tree (ks_le hk) h
  exact ⟨t, ht, rfl⟩
structure GlobR (mg : Str → Option Value) : Prop where
  mostT : ∃ t, mg "MOST_SIGNS_trees" = some (.int 40 t)
  reversed : mg "reversed" = none
section
variable {K : PySem.W.Frag} {M M' : Addr → Prop} {H H1 H' : Hp} {σ : L2.St} {ta tb te tc : TE} {v : V} {ns : List Int} {D : Ends} {tu tz : TS}
theorem ev_ofI {i : Int} (h : EvD K M te σ H (.int i)) : Ev te σ H (.int i) := fun H1 e Q q => h H1 e _ fun v d H2 e2 dv pd => by
  subst pd
  cases dv
  exact q H2 e2
theorem ev_ofB {i : Bool} (h : EvD K M te σ H (.bool i)) : Ev te σ H (.bl i) := fun H1 e Q q => h H1 e _ fun v d H2 e2 dv pd => by
  subst pd
  cases dv
  exact q H2 e2
theorem s_forRev {j n : Nat} (h : Ev te σ H (.int (n : Int))) (hn : n ≤ 100000) (Pv : Nat → L2.St → Hp → Prop) (h0 : ∀ H1, Ex H H1 → Pv 0 σ H1)
    (hs : ∀ (i : Nat) σ' H', i < n → Pv i σ' H' → tu { D with nx := Pv (i + 1), ct := Pv (i + 1), bk := D.nx } (σ'.set j (some (.int ((n - 1 - i : Nat) : Int)))) H') (hd : ∀ σ' H', Pv n σ' H' → D.nx σ' H') : tFor (iRevR (tRg1 te)) (gName j) tu D σ H :=
  h H (Ex.refl H) _ fun H1 e => ⟨_, rfl, by omega, by omega, by omega, by omega, by
    have e0 : ((n : Int) - 0).toNat = n := by omega
    rw [e0]
    exact for_rangeC (lo := 0 + (n : Int) - 1) (c := -1) (n := n) Pv (h0 H1 e) (fun i σ' H' hi p => by
      have e1 : (0 : Int) + (n : Int) - 1 + (i : Int) * (-1) = ((n - 1 - i : Nat) : Int) := by omega
      show tu { D with nx := Pv (i + 1), ct := Pv (i + 1), bk := D.nx } (σ'.set j (some (.int ((0 : Int) + (n : Int) - 1 + (i : Int) * (-1))))) H'
      rw [e1]
      exact hs i σ' H' hi p) hd⟩
theorem q_forRev {j n : Nat} (h : Ev te σ H (.int (n : Int))) (hn : n ≤ 100000) (Pv : Nat → L2.St → Hp → Prop) (h0 : ∀ H1, Ex H H1 → Pv 0 σ H1)
    (hs : ∀ (i : Nat) σ' H', i < n → Pv i σ' H' → tu { D with nx := Pv (i + 1), ct := Pv (i + 1), bk := tz D } (σ'.set j (some (.int ((n - 1 - i : Nat) : Int)))) H') (hd : ∀ σ' H', Pv n σ' H' → tz D σ' H') : tSeq (tFor (iRevR (tRg1 te)) (gName j) tu) tz D σ H :=
  s_forRev (D := { D with nx := tz D }) h hn Pv h0 hs hd
end
/-! ### is_tree, check_tree -/
def treeB (S : List Sg) (ns : List Int) : Bool := decide ((ns.length : Int) ≤ 40) && runB S 1 ns
theorem treeB_row {S : List Sg} {t : Tr} (h : OkT S t) (hl : t.size ≤ 40) : treeB S (ofN t.row) = true := by
  unfold treeB
  rw [runB_row h, ofN_len, decide_eq_true (by unfold Tr.size at hl; omega)]
  rfl
/-! ### sizes_of -/
def nums (r : List Nat) : List V := r.map fun (s : Nat) => V.int (s : Int)
theorem nums_len (r : List Nat) : (nums r).length = r.length := List.length_map _
theorem nums_app (r q : List Nat) : nums (r ++ q) = nums r ++ nums q := List.map_append
theorem nums_at {r : List Nat} {j s : Nat} (h : r[j]? = some s) : (nums r)[j]? = some (.int (s : Int)) := by
  unfold nums
  rw [List.getElem?_map, h]
  rfl
theorem nums_dts {K : PySem.W.Frag} {M : Addr → Prop} {H : Hp} (r : List Nat) : Dts K M H (nums r) ((ofN r).map PyData.int) := by
  have e : nums r = (ofN r).map V.int := by
    unfold nums ofN
    rw [List.map_map]
    rfl
  rw [e]
  exact Dts.of_ints _
def intsD (r : List Nat) : PyData := .list ((ofN r).map PyData.int)
/-! ### data by its size and its depth -/
theorem lay_all : ∀ {ds : List PyData}, (∀ d ∈ ds, d.canLay0 = true) → PyData.canLayAll0 ds = true
  | [], _ => rfl
  | d :: ds, h => by
    rw [PyData.canLayAll0, h d List.mem_cons_self, lay_all fun e he => h e (List.mem_cons_of_mem _ he)]
    rfl
theorem depth_all {n : Nat} : ∀ {ds : List PyData}, (∀ d ∈ ds, d.depth ≤ n) → PyData.depthAll ds ≤ n
  | [], _ => Nat.zero_le _
  | d :: ds, h => by
    rw [PyData.depthAll]
    exact Nat.max_le.mpr ⟨h d List.mem_cons_self, depth_all fun e he => h e (List.mem_cons_of_mem _ he)⟩
/-- data that may be laid, of a small depth -/
structure Flat (n : Nat) (d : PyData) : Prop where
  lay : d.canLay0 = true
  depth : d.depth ≤ n
theorem flat_int (i : Int) : Flat 0 (.int i) := ⟨rfl, Nat.le_refl _⟩
theorem flat_list {n : Nat} {ds : List PyData} (h : ∀ d ∈ ds, Flat n d) : Flat (n + 1) (.list ds) :=
  ⟨by rw [PyData.canLay0]; exact lay_all fun d hd => (h d hd).lay, by rw [PyData.depth]; have := depth_all fun d hd => (h d hd).depth; omega⟩
theorem flat_tup {n : Nat} {ds : List PyData} (h : ∀ d ∈ ds, Flat n d) : Flat (n + 1) (.tuple ds) :=
  ⟨by rw [PyData.canLay0]; exact lay_all fun d hd => (h d hd).lay, by rw [PyData.depth]; have := depth_all fun d hd => (h d hd).depth; omega⟩
theorem flat_tupI (ns : List Int) : Flat 1 (tupI ns) := flat_tup fun d hd => by
  obtain ⟨i, _, rfl⟩ := List.mem_map.mp hd
  exact flat_int i
theorem Flat.shaped {n : Nat} {d : PyData} (h : Flat n d) (hn : n ≤ 20) : SeqAt.shaped d = true := by
  unfold SeqAt.shaped
  rw [h.lay, decide_eq_true (by have := h.depth; omega)]
  rfl
theorem Flat.self {n : Nat} {d : PyData} (h : Flat n d) : PyData.eqv d d = true := SeqAt.eqv_refl _ h.lay
section
variable {K : PySem.W.Frag} {M M' : Addr → Prop} {H H1 H' : Hp} {σ : L2.St} {ta tb te tc : TE} {v : V} {d1 d2 : PyData}
theorem evd_eqD {n m : Nat} (ha : EvD K M ta σ H d1) (hb : EvD K M tb σ H d2) (f1 : Flat n d1) (f2 : Flat m d2) (hn : n ≤ 20 := by decide) (hm : m ≤ 20 := by decide) : EvD K M (tOp (rEqD K) ta tb) σ H (.bool (PyData.eqv d1 d2)) :=
  evp_op ha hb fun x y a b H1 e dx dy px py Q q => by
    subst px py
    exact ⟨_, _, dx.dp, dy.dp, f1.shaped hn, f2.shaped hm, q _ _ H1 (Ex.refl _) (.bl _) rfl⟩
theorem evd_neD {n m : Nat} (ha : EvD K M ta σ H d1) (hb : EvD K M tb σ H d2) (f1 : Flat n d1) (f2 : Flat m d2) (hn : n ≤ 20 := by decide) (hm : m ≤ 20 := by decide) : EvD K M (tOp (rNeD K) ta tb) σ H (.bool (!PyData.eqv d1 d2)) :=
  evp_op ha hb fun x y a b H1 e dx dy px py Q q => by
    subst px py
    exact ⟨_, _, dx.dp, dy.dp, f1.shaped hn, f2.shaped hm, q _ _ H1 (Ex.refl _) (.bl _) rfl⟩
/-- tuples put together, a part of a tuple -/
theorem evd_catA {ds es : List PyData} (ha : EvD K M ta σ H (.tuple ds)) (hb : EvD K M tb σ H (.tuple es)) (hs : ds.length + es.length ≤ 100000) : EvD K M (tOp (rCatA K) ta tb) σ H (.tuple (ds ++ es)) :=
  evp_op ha hb fun x y a b H1 e dx dy px py Q q => by
    subst px py
    cases dx with
    | tup h1 h3 =>
      cases dy with
      | tup k1 k3 =>
        refine ⟨_, _, _, _, rfl, rfl, SqT.of h1, SqT.of k1, by rw [h3.length, k3.length]; exact sz_of hs, fun e0 => ?_, fun _ e0 => ?_, fun _ _ p hp => q _ _ _ (Ex.new hp) (.tup upd_same ((h3.append k3).ex (Ex.new hp))) rfl⟩
        · subst e0
          cases h3
          exact q _ _ H1 (Ex.refl _) (.tup k1 k3) rfl
        · subst e0
          cases k3
          exact q _ _ H1 (Ex.refl _) (.tup h1 h3) (by rw [List.append_nil])
theorem evd_slT {ds : List PyData} {tl th : TO} {lo hi : Option Int} (ha : EvD K M ta σ H (.tuple ds)) (hl : EvPO K M tl σ H lo) (hh : EvPO K M th σ H hi) : EvD K M (tSl (rSlA K) ta tl th) σ H (.tuple (cutG ds lo hi)) := fun H1 e Q q =>
  ha H1 e _ fun v d H2 e2 dv pd => hl H2 (e.trans e2) _ fun H3 e3 => hh H3 ((e.trans e2).trans e3) _ fun H4 e4 => by
    subst pd
    cases dv.ex (e3.trans e4) with
    | tup h1 h3 =>
      refine ⟨_, _, rfl, SqT.of h1, fun hw => q _ _ H4 ((e2.trans e3).trans e4) (.tup h1 h3) ?_, fun _ p hp => q _ _ _ (((e2.trans e3).trans e4).trans (Ex.new hp)) (.tup upd_same (h3.cut.ex (Ex.new hp))) rfl⟩
      unfold cutG
      rw [h3.length] at hw
      rw [hw.1, hw.2, List.drop_zero, Nat.sub_zero, List.take_length]
theorem cutG_nat {α : Type} (xs : List α) (i j : Nat) (h : i ≤ j) (hj : j ≤ xs.length) : cutG xs (some (i : Int)) (some (j : Int)) = (xs.drop i).take (j - i) := by
  unfold cutG
  rw [HT.sIx_nat, HT.sIx_nat, Nat.min_eq_left (Nat.le_trans h hj), Nat.min_eq_left hj]
theorem cutG_to {α : Type} (xs : List α) (j : Nat) (hj : j ≤ xs.length) : cutG xs none (some (j : Int)) = xs.take j := by
  unfold cutG
  rw [HT.sIx_nat, HT.sIx_none, Nat.min_eq_left hj]
  rfl
theorem cutG_from {α : Type} (xs : List α) (i : Nat) (hj : i ≤ xs.length) : cutG xs (some (i : Int)) none = xs.drop i := by
  unfold cutG
  rw [HT.sIx_nat, HT.sIx_none, Nat.min_eq_left hj, List.take_of_length_le (by rw [List.length_drop]; exact Nat.le_refl _)]
/-- a test of which something is known -/
def EvTP (tt : TT) (σ : L2.St) (H : Hp) (PB : Bool → Prop) : Prop := ∀ H1, Ex H H1 → ∀ Q : Bool → Hp → Prop, (∀ b H2, Ex H1 H2 → PB b → Q b H2) → tt σ H1 Q
theorem evtp_of {t : TT} {b : Bool} (h : EvT t σ H b) : EvTP t σ H (· = b) := fun H1 e Q q => h H1 e Q fun H2 e2 => q b H2 e2 rfl
theorem evtp_test {PB : Bool → Prop} (h : EvP K M te σ H (fun d => ∃ b, d = .bool b ∧ PB b)) : EvTP (tTest te) σ H PB := fun H1 e Q q => h H1 e _ fun v d H2 e2 dv pd => by
  obtain ⟨b, rfl, pb⟩ := pd
  cases dv
  exact ⟨b, rfl, q b H2 e2 pb⟩
theorem evtp_or {t u : TT} {PA PB : Bool → Prop} (h1 : EvTP t σ H PA) (h2 : PA false → EvTP u σ H PB) : EvTP (tOr t u) σ H (fun b => PA true ∧ b = true ∨ PA false ∧ PB b) := fun H1 e Q q => h1 H1 e _ fun b H2 e2 pb => by
  cases b with
  | true => exact q true H2 e2 (.inl ⟨pb, rfl⟩)
  | false => exact h2 pb H2 (e.trans e2) Q fun b H3 e3 p3 => q b H3 (e2.trans e3) (.inr ⟨pb, p3⟩)
theorem EvTP.mono {t : TT} {PA PB : Bool → Prop} (h : EvTP t σ H PA) (k : ∀ b, PA b → PB b) : EvTP t σ H PB := fun H1 e Q q => h H1 e Q fun b H2 e2 pb => q b H2 e2 (k b pb)
theorem s_whenP {t : TT} {tu : TS} {D : Ends} {PB : Bool → Prop} (h : EvTP t σ H PB) (h1 : PB true → ∀ H1, Ex H H1 → tu D σ H1) (h2 : PB false → ∀ H1, Ex H H1 → D.nx σ H1) : tIfS t tu tNext D σ H := h H (Ex.refl H) _ fun b H1 e pb => by
  cases b with
  | true => exact h1 pb H1 e
  | false => exact h2 pb H1 e
theorem eqv_list (ds es : List PyData) : PyData.eqv (.list ds) (.list es) = PyData.eqvAll ds es := by rw [PyData.eqv]
theorem eqv_tup (ds es : List PyData) : PyData.eqv (.tuple ds) (.tuple es) = PyData.eqvAll ds es := by rw [PyData.eqv]
theorem eqv_tupI (ns ms : List Int) : PyData.eqv (tupI ns) (tupI ms) = decide (ns = ms) := by
  unfold tupI
  rw [eqv_tup, eqv_ints]
theorem flat_intsD (c : List Nat) : Flat 1 (intsD c) := flat_list fun d hd => by
  obtain ⟨i, _, rfl⟩ := List.mem_map.mp hd
  exact flat_int i
theorem eqv_nil (c : List Nat) : PyData.eqv (intsD c) (.list []) = decide (c = []) := by
  unfold intsD
  rw [eqv_list, show ([] : List PyData) = ([] : List Int).map PyData.int from rfl, eqv_ints]
  unfold ofN
  cases c with
  | nil => rfl
  | cons a c => rfl
/-- how many kids, by the list of signs -/
theorem evd_ar {S : List Sg} {i k j : Nat} {z : Int} {v : V} {q : Sg} (hs : σ[i]? = some (some v)) (hv : Dt K M H v (.list (S.map sgD))) (hz : EvD K M te σ H (.int z)) (ez : z = (j : Int)) (hq : S[j]? = some q) :
    EvD K M (tOp (rIxT K) (tOp (rIxL K) (tVar i) te) (tC (.int 1))) σ H (.int q.2) :=
  evd_ixT (j := 1) (ds := [.str q.1, .int q.2]) ((evd_ixL (j := j) (d := sgD q) (evd_var hs hv) hz ez (by rw [List.getElem?_map, hq]; rfl)).mono fun d h => h) evd_int rfl rfl
end
end TH
set_option maxRecDepth 100000
set_option maxHeartbeats 4000000
namespace TH
open PySem L2 Evl
/-! ### a method as a value, and its call through a local name -/
def tBnM (C : Addr) (m : Str) (g : Addr) (ta : TE) : TE := fun σ H Q => ta σ H fun x H1 => ∃ a dx fs, x = .ref a ∧ H1 a = some (.ins C dx fs) ∧ fs.lookup m = none ∧ ∀ q, H1 q = none → Q (.ref q) (upd H1 q (.met g a))
def tCallM (g : Addr) (sp : Sp) (E : XK) (tf : TE) (t : TA) : TE := fun σ H Q => tf σ H fun v H1 => ∃ q a, v = .ref q ∧ t σ H1 fun vs H2 => H2 q = some (.met g a) ∧ sp (.ref a :: vs) H2 Q E
section
variable {X : Cx} {CX : CXT} {k : Nat} {C g : Addr} {m x : Str} {sp : Sp} {E : XK} {o e : Expr} {es : List Expr} {ta tf : TE} {t : TA} {pos nm : Pos}
theorem pe_bnM (he : PE X o ta) (c : Cls X.K C) (b : BMeth X.K C m g) (hb : attributeBase o m X.env (eval o X.env) = eval o X.env := by rfl) : PE X (.Attribute o m pos) (tBnM C m g ta) := by
  refine ⟨fun pins s σ H Q I h => ?_⟩
  refine attr_of hb (thn (he.run pins s σ H _ I h) fun u s1 ⟨x, H1, I1, rx, a, dx, fs, ex, ea, l, q⟩ => ?_)
  subst ex
  exact op_getbound I1 ea c b l rx q
theorem pe_callM (hf : PE X (.Name x nm) tf) (F : FnR X.prog X.w X.K X.mg X.base CX k g sp) (hr : Room k X.A) (hx : Passes CX X E) (fi : PySem.W.fnIn X.K g = true) (ha : PA X (e :: es) t)
    (he : starEach (e :: es) X.env = (false, eval e X.env) :: starEach es X.env := by rfl) (hpl : (backTo pos (starEach es X.env)).any (·.1) = false := by rfl) : PE X (.Call (.Name x nm) (e :: es) [] pos) (tCallM g sp E tf t) := by
  refine ⟨fun pins s σ H Q I h => ?_⟩
  refine wpAny_Call_Name_kw (thn (hf.run pins s σ H _ I h) fun f s0 ⟨v, H0, I0, r0, q, a, ev, q0⟩ => ?_)
  subst ev
  obtain rfl : f = Value.ref q := r0
  have z : wpAny (model X.prog X.w) X.A (spliced (backTo pos (starEach (e :: es) X.env))) (fun vs s₁ => PySem.W.MethP X.K q g (.ref a) s₁.heap ∧ wpAny (model X.prog X.w) X.A (call (.ref q) ([] ++ vs)) (EP X pins σ Q) X.xe s₁) X.xe s0 :=
    thn (ha.run pos pins s0 σ H0 _ I0 q0) fun us s1 ⟨vs, H1, I1, r1, hb, q1⟩ => ⟨met_P I1 hb, wpAny_call (PySem.W.method_call (met_P I1 hb).1 (run_fnR (us := Value.ref a :: us) (vs := V.ref a :: vs) F hr hx I1 (.cons rfl r1) q1))⟩
  rw [he] at z ⊢
  exact PySem.W.callWith_of (P := PySem.W.MethP X.K q g (.ref a)) (by show ((false || (backTo pos (starEach es X.env)).any (·.1)) || false) = false; rw [hpl]; rfl) (PySem.W.keeps_M fi) (PySem.Calls.evalArgs_plain z)
end
end TH
set_option maxRecDepth 100000
set_option maxHeartbeats 4000000
namespace TH
open PySem L2 Evl
abbrev sLReader : Stmt := top 33
abbrev sLLed : Stmt := top 34
/-! ### plain readers -/
structure Pl where
  moods : Nat
  tables : List (List Nat)
  liked : List Nat
def plD (R : Pl) : PyData := .tuple [.int (R.moods : Int), .list (R.tables.map intsD), intsD R.liked]
structure Wf (S : List Sg) (R : Pl) : Prop where
  m1 : 1 ≤ R.moods
  len : R.tables.length = S.length
  tab : ∀ (s : Nat) (tb : List Nat), R.tables[s]? = some tb → tb.length = R.moods ^ ks S s ∧ ∀ m ∈ tb, m < R.moods
  lik : R.liked.Pairwise (· < ·)
  likm : ∀ m ∈ R.liked, m < R.moods
structure GoodR (S : List Sg) (R : Pl) : Prop extends Wf S R where
  m6 : R.moods ≤ 40
def spotN (m : Nat) (k : List Nat) : Nat := k.foldl (fun a x => a * m + x) 0
def ledN (R : Pl) (s : Nat) (k : List Nat) : Nat := (R.tables.getD s []).getD (spotN R.moods k) 0
theorem fold_lt {m : Nat} : ∀ (k : List Nat) (a j : Nat), a < m ^ j → (∀ x ∈ k, x < m) → k.foldl (fun a x => a * m + x) a < m ^ (j + k.length)
  | [], a, j, h, _ => h
  | x :: k, a, j, h, hx => by
    have h1 := hx x List.mem_cons_self
    have h2 : a * m + x < m ^ (j + 1) := by
      rw [Nat.pow_succ]
      calc a * m + x < a * m + m := by omega
        _ = (a + 1) * m := by rw [Nat.succ_mul]
        _ ≤ m ^ j * m := Nat.mul_le_mul_right m h
    have := fold_lt k (a * m + x) (j + 1) h2 fun y hy => hx y (List.mem_cons_of_mem _ hy)
    rw [List.length_cons, show j + (k.length + 1) = j + 1 + k.length by omega]
    exact this
theorem spotN_lt {m : Nat} {k : List Nat} (hk : ∀ x ∈ k, x < m) : spotN m k < m ^ k.length := by
  have := fold_lt k 0 0 (by rw [Nat.pow_zero]; exact Nat.one_pos) hk
  rw [Nat.zero_add] at this
  exact this
theorem Wf.led {S : List Sg} {R : Pl} (h : Wf S R) {s : Nat} {k : List Nat} (hs : s < S.length) (hk : k.length = ks S s) (hm : ∀ x ∈ k, x < R.moods) : ∃ tb, R.tables[s]? = some tb ∧ tb[spotN R.moods k]? = some (ledN R s k) ∧ ledN R s k < R.moods := by
  have hs' : s < R.tables.length := by rw [h.len]; exact hs
  have ht : R.tables[s]? = some (R.tables[s]'hs') := List.getElem?_eq_getElem _
  obtain ⟨h1, h2⟩ := h.tab s _ ht
  have h3 := spotN_lt hm
  rw [hk, ← h1] at h3
  have h4 : (R.tables[s]'hs')[spotN R.moods k]? = some ((R.tables[s]'hs')[spotN R.moods k]'h3) := List.getElem?_eq_getElem _
  have e : ledN R s k = (R.tables[s]'hs')[spotN R.moods k]'h3 := by
    unfold ledN
    have e1 : R.tables.getD s [] = R.tables[s]'hs' := by
      rw [List.getD_eq_getElem?_getD, ht]
      rfl
    rw [e1, List.getD_eq_getElem?_getD, h4]
    rfl
  refine ⟨_, ht, by rw [e]; exact h4, ?_⟩
  rw [e]
  exact h2 _ (List.mem_of_getElem? h4)
def moodT (R : Pl) : Tr → Nat
  | .n0 s => ledN R s []
  | .n1 s t => ledN R s [moodT R t]
  | .n2 s t u => ledN R s [moodT R t, moodT R u]
theorem moodT_eq (R : Pl) (t : Tr) : moodT R t = ledN R t.root (t.kids.map (moodT R)) := by
  cases t <;> rfl
theorem Wf.mood {S : List Sg} {R : Pl} (h : Wf S R) : ∀ t : Tr, OkT S t → moodT R t < R.moods := by
  intro t
  induction t with
  | n0 s =>
    intro ho
    obtain ⟨_, _, _, hl⟩ := h.led (s := s) (k := []) ho.1 ho.2.symm (fun x hx => nomatch hx)
    exact hl
  | n1 s t ih =>
    intro ho
    obtain ⟨_, _, _, hl⟩ := h.led (s := s) (k := [moodT R t]) ho.1 ho.2.1.symm (fun x hx => by rw [List.mem_singleton.mp hx]; exact ih ho.2.2)
    exact hl
  | n2 s t u ih1 ih2 =>
    intro ho
    obtain ⟨_, _, _, hl⟩ := h.led (s := s) (k := [moodT R t, moodT R u]) ho.1 ho.2.1.symm (fun x hx => by
      rcases List.mem_cons.mp hx with rfl | hx
      · exact ih1 ho.2.2.1
      · rw [List.mem_singleton.mp hx]
        exact ih2 ho.2.2.2)
    exact hl
/-! ### comprehensions by what is made so far -/
section
variable {K : PySem.W.Frag} {M M' : Addr → Prop} {H H1 H' : Hp} {σ : L2.St} {ta tb te tl : TE} {tt : TT} {g : TG} {vs : List Nat} {D : Ends} {tz tu : TS}
/-- what a turn gives: perhaps an item more -/
def TurnI (K : PySem.W.Frag) (M : Addr → Prop) (σ : L2.St) (vs : List Nat) (tt : TT) (te : TE) (I : List PyData → Prop) (es : List PyData) (σ2 : L2.St) (H2 : Hp) : Prop :=
  wipe σ2 vs = wipe σ vs ∧ ∀ H3, Ex H2 H3 → ∀ Q : Bool → Hp → Prop, (∀ b H4, Ex H3 H4 → (b = true → EvP K M te σ2 H4 (fun e => I (es ++ [e]))) → (b = false → I es) → Q b H4) → tt σ2 H3 Q
theorem lc_dataI {n : Nat} {J : It} {G : Hp → Prop} {Y : Nat → Hp → V → Hp → Prop} (w : Walk J n G Y) {A : Addr} {Qd : Hp → Prop} (ok : Ok M H1) (hD : H1 A = none) (hn : n < sizeLine)
    (I : Nat → List PyData → Prop) (h0 : I 0 []) (hG : ∀ H, Ex H1 H → G H)
    (hs : ∀ (M' : Addr → Prop) (i : Nat) (es : List PyData) (x : V) (H H' : Hp), (∀ v d, Dt K M H1 v d → Dt K M' H1 v d) → Ok M' H → i < n → I i es → Ex H1 H → Y i H x H' →
      ∀ Qg : L2.St → Hp → Prop, (∀ σ2 H2, Ex H H2 → TurnI K M' σ vs tt te (I (i + 1)) es σ2 H2 → Qg σ2 H2) → g x (wipe σ vs) H' Qg)
    (q : ∀ H es, Ex H1 H → Dt K M H (.ref A) (.list es) → I n es → Qd H) :
    ∃ W : Nat → Nat → Hp → Prop, (∃ m, W 0 m (upd H1 A (.lst []))) ∧ ∀ i m H, W i m H →
      (J.stop i H ∧ Qd H) ∨ (J.go i H ∧ ∃ Nx : Hp → Prop, (∀ H', Nx H' → ∃ m', m' < m ∧ W (i + 1) m' H') ∧ ∀ x H', J.yld i H x H' → g x (wipe σ vs) H' fun σ2 H2 => wipe σ2 vs = wipe σ vs ∧ tt σ2 H2 fun b H3 =>
        if b = true then te σ2 H3 fun y H4 => ∃ acc, H4 A = some (.lst acc) ∧ acc.length < sizeLine ∧ Nx (upd H4 A (.lst (acc ++ [y]))) else Nx H3) := by
  have ok' : ∀ {H}, Ex H1 H → H A ≠ none → Ok (TH.more M A) H := fun {H} e n l m => by
    rcases m with m | rfl
    · exact (ok.ex e) l m
    · exact n
  refine lc_it w (fun i H => Ex H1 H ∧ ∃ acc es, H A = some (.lst acc) ∧ Dts K (TH.more M A) H acc es ∧ I i es ∧ es.length ≤ i)
    ⟨Ex.new hD, [], [], upd_same, .nil, h0, Nat.le_refl _⟩ (fun i H _ p => hG H p.1) (fun i x H H' hi p y => ?_) (fun H p => ?_)
  · obtain ⟨e, acc, es, hacc, dacc, pI, pl⟩ := p
    refine hs (TH.more M A) i es x H H' (fun v d h => h.more hD) (ok' e (by rw [hacc]; simp)) hi pI e y _ fun σ2 H2 e2 T => ?_
    obtain ⟨hw, ht⟩ := T
    refine ⟨hw, ht H2 (Ex.refl _) _ fun b H3 e3 hb1 hb2 => ?_⟩
    have e03 := e2.trans e3
    have lacc : acc.length ≤ i := by
      rw [dacc.length]
      exact pl
    cases b with
    | true =>
      refine iteT (hb1 rfl H3 (Ex.refl _) _ fun y d H4 e4 dy py => ?_)
      refine ⟨acc, e4 _ _ (e03 _ _ hacc), Nat.lt_of_le_of_lt lacc (Nat.lt_trans hi hn), ?_, acc ++ [y], es ++ [d], upd_same, ?_, py, ?_⟩
      · exact Ex.mut ((e.trans e03).trans e4) hD
      · exact (((dacc.ex (e03.trans e4))).append (.one dy)).upd (e4 _ _ (e03 _ _ hacc)) (.inr rfl)
      · rw [List.length_append]
        show es.length + 1 ≤ _
        omega
    | false => exact iteF ⟨e.trans e03, acc, es, e03 _ _ hacc, dacc.ex e03, hb2 rfl, by omega⟩
  · obtain ⟨e, acc, es, hacc, dacc, pI, pl⟩ := p
    exact q H es e (.lst hacc (ok.new hD) (dacc.weak more_sub)) pI
/-- what gives a new list -/
def EvNew (K : PySem.W.Frag) (M : Addr → Prop) (te : TE) (σ : L2.St) (H : Hp) (P : List PyData → Prop) : Prop :=
  ∀ H1, Ex H H1 → ∀ Q : VK, (∀ l xs ds H2, H1 l = none → Ex H1 H2 → H2 l = some (.lst xs) → Dts K M H2 xs ds → P ds → Q (.ref l) H2) → te σ H1 Q
theorem EvNew.mono {P P' : List PyData → Prop} (h : EvNew K M te σ H P) (k : ∀ ds, P ds → P' ds) : EvNew K M te σ H P' := fun H1 e Q q => h H1 e Q fun l xs ds H2 h1 h2 h3 h4 h5 => q l xs ds H2 h1 h2 h3 h4 (k _ h5)
theorem EvNew.data {P : List PyData → Prop} (ok : Ok M H) (h : EvNew K M te σ H P) : EvP K M te σ H (fun d => ∃ ds, d = .list ds ∧ P ds) := fun H1 e Q q => h H1 e Q fun l xs ds H2 h1 h2 h3 h4 h5 => q _ _ H2 h2 (.lst h3 ((ok.ex e).new h1) h4) ⟨ds, rfl, h5⟩
/-- [.. for i in range(n) ..] by what is made so far -/
theorem evn_lcRI {ta : TA} {n : Nat} (I : Nat → List PyData → Prop) (ok : Ok M H) (hl : EvDA K M ta σ H [.int (n : Int)]) (hz : n ≤ 100000) (h0 : I 0 [])
    (hs : ∀ (M' : Addr → Prop) (i : Nat) (es : List PyData) (H' : Hp), (∀ v d, Dt K M H v d → Dt K M' H' v d) → Ok M' H' → i < n → I i es → Ex H H' →
      ∀ Qg : L2.St → Hp → Prop, (∀ σ2 H2, Ex H' H2 → TurnI K M' σ vs tt te (I (i + 1)) es σ2 H2 → Qg σ2 H2) → g (.int (i : Int)) (wipe σ vs) H' Qg) :
    EvNew K M (tLc (iRng1 ta) g tt te vs) σ H (I n) := fun H0 e Q q =>
  hl H0 e _ fun us ds H1 e1 dv pd => by
    subst pd
    cases dv with
    | cons h1 h2 =>
      cases h1
      cases h2
      refine ⟨(n : Int), rfl, by omega, by omega, fun A hA => ?_⟩
      have hw : Walk (Itr 0 ((n : Int).toNat)) n (fun _ => True) (YFn fun i => .int (0 + i)) := by
        rw [Int.toNat_natCast]
        exact walk_range
      refine lc_dataI (K := K) (σ := σ) (vs := vs) hw (ok.ex (e.trans e1)) hA (Nat.lt_of_le_of_lt hz (by decide)) I h0 (fun H e => trivial) (fun M' i es x H2 H' hm ok' hi hI e2 y Qg qg => ?_) (fun H2 es e2 dd hI => ?_)
      · obtain ⟨rfl, rfl⟩ := y
        show g (V.int (0 + (i : Int))) (wipe σ vs) _ Qg
        rw [Int.zero_add]
        exact hs M' i es _ (fun v d h => (hm v d (h.ex (e.trans e1))).ex e2) ok' hi hI ((e.trans e1).trans e2) Qg qg
      · cases dd with
        | lst w1 w2 w3 => exact q A _ es H2 (fresh_back e1 hA) (e1.trans e2) w1 w3 hI
theorem q_asgN {i : Nat} {P : List PyData → Prop} (h : EvNew K M te σ H P) (k : ∀ l xs ds H1, H l = none → Ex H H1 → H1 l = some (.lst xs) → Dts K M H1 xs ds → P ds → tz D (σ.set i (some (.ref l))) H1) : tSeq (tAsg te (gName i)) tz D σ H := h H (Ex.refl H) _ k
end
theorem dts_intsN {K : PySem.W.Frag} {M : Addr → Prop} {H : Hp} {r : List Nat} {xs : List V} (h : Dts K M H xs ((ofN r).map PyData.int)) : xs = nums r := by
  have := Dts.ints _ h
  rw [this]
  unfold nums ofN
  rw [List.map_map]
  rfl
end TH
set_option maxRecDepth 100000
set_option maxHeartbeats 4000000
namespace TH
open PySem L2 Evl
abbrev sPlace : Stmt := top 13
abbrev sRInit : Stmt := inClass (top 18) 0
abbrev sRKeep : Stmt := inClass (top 18) 1
abbrev sRBook : Stmt := inClass (top 18) 2
abbrev sRMoods : Stmt := inClass (top 18) 3
abbrev sRTable : Stmt := inClass (top 18) 4
abbrev sRLiked : Stmt := inClass (top 18) 5
abbrev sRLead : Stmt := inClass (top 18) 6
abbrev sRMood : Stmt := inClass (top 18) 7
abbrev sRLikes : Stmt := inClass (top 18) 8
/-! ### a Reader in the heap -/
def rflds (pb : Addr) (m : Int) (lt ll : Addr) : List (Str × V) := putF "_liked" (.ref ll) (putF "_tables" (.ref lt) (putF "_moods" (.int m) (putF "_book" (.ref pb) [])))
section
variable (pb : Addr) (m : Int) (lt ll : Addr)
theorem rflds_book : (rflds pb m lt ll).lookup ("_book" : Str) = some (.ref pb) := by
  unfold rflds
  rw [lookup_putF, if_neg (by decide +kernel), lookup_putF, if_neg (by decide +kernel), lookup_putF, if_neg (by decide +kernel), lookup_putF, if_pos rfl]
theorem rflds_moods : (rflds pb m lt ll).lookup ("_moods" : Str) = some (.int m) := by
  unfold rflds
  rw [lookup_putF, if_neg (by decide +kernel), lookup_putF, if_neg (by decide +kernel), lookup_putF, if_pos rfl]
theorem rflds_tables : (rflds pb m lt ll).lookup ("_tables" : Str) = some (.ref lt) := by
  unfold rflds
  rw [lookup_putF, if_neg (by decide +kernel), lookup_putF, if_pos rfl]
theorem rflds_liked : (rflds pb m lt ll).lookup ("_liked" : Str) = some (.ref ll) := by
  unfold rflds
  rw [lookup_putF, if_pos rfl]
theorem rflds_no {x : Str} (h1 : ¬ x = "_liked") (h2 : ¬ x = "_tables") (h3 : ¬ x = "_moods") (h4 : ¬ x = "_book") : (rflds pb m lt ll).lookup x = none := by
  unfold rflds
  rw [lookup_putF, if_neg h1, lookup_putF, if_neg h2, lookup_putF, if_neg h3, lookup_putF, if_neg h4]
  rfl
end
/-- a Reader of moods, tables and liked moods, whatever they are -/
def ReadAt (K : PySem.W.Frag) (CB CR : Addr) (M : Addr → Prop) (H : Hp) (p : Addr) (S : List Sg) (R : Pl) : Prop :=
  ∃ dx pb lt ll, H p = some (.ins CR dx (rflds pb (R.moods : Int) lt ll)) ∧ BookAt CB M H pb S ∧ Dt K M H (.ref lt) (.list (R.tables.map intsD)) ∧ Dt K M H (.ref ll) (intsD R.liked)
section
variable {K : PySem.W.Frag} {M M' : Addr → Prop} {H H' : Hp} {CB CR p : Addr} {S : List Sg} {R : Pl}
theorem ReadAt.ex (h : ReadAt K CB CR M H p S R) (e : Ex H H') : ReadAt K CB CR M H' p S R := by
  obtain ⟨dx, pb, lt, ll, h1, h2, h3, h4⟩ := h
  exact ⟨dx, pb, lt, ll, e _ _ h1, h2.ex e, h3.ex e, h4.ex e⟩
theorem ReadAt.weak (h : ReadAt K CB CR M H p S R) (m : ∀ a, M' a → M a) : ReadAt K CB CR M' H p S R := by
  obtain ⟨dx, pb, lt, ll, h1, h2, h3, h4⟩ := h
  exact ⟨dx, pb, lt, ll, h1, h2.weak m, h3.weak m, h4.weak m⟩
theorem ReadAt.more {D : Addr} (h : ReadAt K CB CR M H p S R) (hD : H D = none) : ReadAt K CB CR (TH.more M D) H p S R := by
  obtain ⟨dx, pb, lt, ll, h1, h2, h3, h4⟩ := h
  exact ⟨dx, pb, lt, ll, h1, h2.more hD, h3.more hD, h4.more hD⟩
theorem ReadAt.upd {l : Addr} {ys : List V} {o : HO} (h : ReadAt K CB CR M H p S R) (hl : H l = some (.lst ys)) (m : M l) : ReadAt K CB CR M (L2.upd H l o) p S R := by
  obtain ⟨dx, pb, lt, ll, h1, h2, h3, h4⟩ := h
  refine ⟨dx, pb, lt, ll, ?_, h2.upd hl m, h3.upd hl m, h4.upd hl m⟩
  rw [upd_ne (ne_of h1 hl (by intro z; cases z))]
  exact h1
end
structure ReadT (K : PySem.W.Frag) (mg : Str → Option Value) (C : Addr) : Prop where
  cl : Cls K C
  n1 : NoAttr K C "_book"
  n2 : NoAttr K C "_moods"
  n3 : NoAttr K C "_tables"
  n4 : NoAttr K C "_liked"
  g : mg "Reader" = some (.ref C)
theorem nums_of (r : List Nat) : (ofN r).map V.int = nums r := by
  unfold nums ofN
  rw [List.map_map]
  rfl
section
variable {K : PySem.W.Frag} {M M' : Addr → Prop} {H H1 H' : Hp} {σ : L2.St} {ta tb te : TE} {E : XK} {d : PyData}
/-- a field whose value are data -/
theorem evd_fld {i : Nat} {p C dx : Addr} {fs : List (Str × V)} {f : Str} {v : V} (hs : σ[i]? = some (some (.ref p))) (hp : H p = some (.ins C dx fs)) (c : Cls K C) (n : NoAttr K C f) (l : fs.lookup f = some v) (hd : Dt K M H v d) : EvD K M (tFld K (tVar i) f) σ H d := fun H1 e Q q =>
  ⟨_, hs, p, C, dx, fs, v, rfl, e _ _ hp, c, n, l, q v d H1 (Ex.refl _) (hd.ex e) rfl⟩
theorem dt_nums {a : Addr} {k : List Nat} (h : H a = some (.tup (nums k))) : Dt K M H (.ref a) (tupI (ofN k)) := .tup h (nums_dts k)
theorem dt_tupN {v : V} {k : List Nat} (h : Dt K M H v (tupI (ofN k))) : ∃ a, v = .ref a ∧ SqT K H a (nums k) := by
  obtain ⟨a, rfl, h1⟩ := dt_tup h
  rw [nums_of] at h1
  exact ⟨a, rfl, h1⟩
end
/-! ### place_in_table -/
def spPlace (K : PySem.W.Frag) : Sp := fun vs H Q _ => ∃ (m : Nat) (z : V) (k : List Nat), vs = [.int (m : Int), z] ∧ Dt K MF H z (tupI (ofN k)) ∧ m ≤ 40 ∧ k.length ≤ 2 ∧ (∀ x ∈ k, x < m) ∧ ∀ H', Ex H H' → Q (.int (spotN m k : Int)) H'
theorem spotN_small {m : Nat} {k : List Nat} (hM : m ≤ 40) (hK : k.length ≤ 2) (hm : ∀ x ∈ k, x < m) (i : Nat) : spotN m (k.take i) ≤ 1600 := by
  have h := spotN_lt (m := m) (k := k.take i) fun x hx => hm x (List.mem_of_mem_take hx)
  have h1 : m ^ (k.take i).length ≤ 40 ^ (k.take i).length := Nat.pow_le_pow_left hM _
  have h2 : (40 : Nat) ^ (k.take i).length ≤ 40 ^ 2 := Nat.pow_le_pow_right (by decide) (by rw [List.length_take]; omega)
  omega
theorem spotN_snoc {m : Nat} {k : List Nat} {i x : Nat} (h : k[i]? = some x) : spotN m (k.take (i + 1)) = spotN m (k.take i) * m + x := by
  unfold spotN
  rw [List.take_add_one, h]
  show (k.take i ++ [x]).foldl _ 0 = _
  rw [List.foldl_append]
  rfl
section
variable {P : Program} {w : World} {K : PySem.W.Frag} {mg : Str → Option Value} {base : Heap} {CB CR : Addr}
abbrev nPlace : List Str := ["moods", "kids", "place", "mood"]
theorem scPlace : FnScope nPlace ["moods", "kids"] (defScope sPlace) := ⟨rfl, rfl, rfl, by decide +kernel, rfl, by decide +kernel, by decide +kernel⟩
theorem evd_mulM {K : PySem.W.Frag} {M : Addr → Prop} {H : Hp} {σ : L2.St} {ta tb : TE} {i j : Int} (ha : EvD K M ta σ H (.int i)) (hb : EvD K M tb σ H (.int j)) (h : -(2 ^ 64) < i ∧ i < 2 ^ 64) : EvD K M (tOp (rI CMul fun i j => .int (i * j)) ta tb) σ H (.int (i * j)) :=
  evp_I ha hb fun a b pa pb => ⟨i, j, pa, pb, .inl h, _, rfl, fun _ => .int _⟩
theorem ok_place {f : Addr} {fd : FuncData} (F : Fun K "place_in_table" "place_in_table" sPlace f fd) : FnOk P w K mg base CX0 1 f fd ["moods", "kids"] (spPlace K) := by
  refine F.ok scPlace (fun vs H Q E h => ?_) (fun cdv A outer s0 H vs Q E hr h => ?_)
  · obtain ⟨m, z, k, rfl, _⟩ := h
    rfl
  · obtain ⟨m, z, k, rfl, hz, hM, hk2, hm, q⟩ := h
    refine ⟨_, pss_cons (ps_set (i := 2) scPlace.nd rfl (.inl rfl) pe_int)
      (pss_cons (ps_for PassesOwn.never rfl (pi_tup (pv 1)) (pg_name (i := 3) scPlace.nd rfl (.inl rfl))
        (pss_one (ps_set (i := 2) scPlace.nd rfl (.inl rfl) (pe_op op_add (pe_op op_mul (pv 2) (pv 0)) (pv 3)))))
      (pss_one (ps_ret (pv 2)))), ?_⟩
    obtain ⟨a, rfl, ha⟩ := dt_tupN hz
    refine ⟨_, rfl, a, rfl, ⟨_, ha⟩, for_tup (K := K) (a := a) (xs := nums k) (fun i σ' H' => Ex H H' ∧ ∃ u, σ' = [some (.int (m : Int)), some (.ref a), some (.int (spotN m (k.take i) : Int)), u])
      ⟨Ex.refl H, none, rfl⟩ (fun i σ' H' _ z => ex_t z.1 ha) ?_ ?_⟩
    · rintro i x σ' H1 hx ⟨e, u, rfl⟩
      obtain ⟨hi, _⟩ := List.getElem?_eq_some_iff.mp hx
      rw [nums_len] at hi
      have hx1 : k[i]? = some (k[i]'hi) := List.getElem?_eq_getElem _
      rw [nums_at hx1] at hx
      cases hx
      have hs := spotN_small hM hk2 hm i
      refine s_asgP (K := K) (M := MF) (evd_add (evd_mulM (evd_var (i := 2) rfl (.int _)) (evd_var (i := 0) rfl (.int _)) (by omega)) (evd_var (i := 3) rfl (.int _))) fun y d H2 e2 dy pd => ?_
      subst pd
      cases dy
      refine ⟨e.trans e2, some (.int ((k[i]'hi : Nat) : Int)), ?_⟩
      rw [spotN_snoc hx1, Int.natCast_add, Int.natCast_mul]
      rfl
    · rintro σ' H1 ⟨e, u, rfl⟩
      rw [nums_len, List.take_length]
      exact ⟨_, rfl, q H1 e⟩
end
/-! ### what a Reader tells of itself -/
def spRBook (K : PySem.W.Frag) (CB CR : Addr) : Sp := fun vs H Q _ => ∃ (M : Addr → Prop) (p : Addr) (S : List Sg) (R : Pl), vs = [.ref p] ∧ ReadAt K CB CR M H p S R ∧ ∀ pb, BookAt CB M H pb S → Q (.ref pb) H
def spRMoods (K : PySem.W.Frag) (CB CR : Addr) : Sp := fun vs H Q _ => ∃ (M : Addr → Prop) (p : Addr) (S : List Sg) (R : Pl), vs = [.ref p] ∧ ReadAt K CB CR M H p S R ∧ Q (.int (R.moods : Int)) H
def spRTable (K : PySem.W.Frag) (CB CR : Addr) : Sp := fun vs H Q _ => ∃ (M : Addr → Prop) (p : Addr) (S : List Sg) (R : Pl) (s : Nat) (tb : List Nat), vs = [.ref p, .int (s : Int)] ∧ ReadAt K CB CR M H p S R ∧ R.tables[s]? = some tb ∧
  ∀ l H', H l = none → Ex H H' → H' l = some (.lst (nums tb)) → Q (.ref l) H'
def spRLiked (K : PySem.W.Frag) (CB CR : Addr) : Sp := fun vs H Q _ => ∃ (M : Addr → Prop) (p : Addr) (S : List Sg) (R : Pl), vs = [.ref p] ∧ ReadAt K CB CR M H p S R ∧
  ∀ l H', H l = none → Ex H H' → H' l = some (.lst (nums R.liked)) → Q (.ref l) H'
def spRLead (K : PySem.W.Frag) (CB CR : Addr) : Sp := fun vs H Q _ => ∃ (M : Addr → Prop) (p : Addr) (S : List Sg) (R : Pl) (s : Nat) (z : V) (k : List Nat), vs = [.ref p, .int (s : Int), z] ∧ ReadAt K CB CR M H p S R ∧ Dt K MF H z (tupI (ofN k)) ∧ GoodR S R ∧ KidsOk S ∧ s < S.length ∧ k.length = ks S s ∧ (∀ x ∈ k, x < R.moods) ∧
  ∀ H', Ex H H' → Q (.int (ledN R s k : Int)) H'
structure GlobY (mg : Str → Option Value) : Prop where
  list : mg "list" = none
theorem tabsAt {R : Pl} {s : Nat} {tb : List Nat} (h : R.tables[s]? = some tb) : (R.tables.map intsD)[s]? = some (intsD tb) := by
  rw [List.getElem?_map, h]
  rfl
theorem dt_listN {K : PySem.W.Frag} {M : Addr → Prop} {H : Hp} {v : V} {r : List Nat} (h : Dt K M H v (intsD r)) : ∃ a, v = .ref a ∧ H a = some (.lst (nums r)) ∧ ¬ M a := by
  unfold intsD at h
  cases h with
  | lst h1 h2 h3 =>
    rw [h3.ints, nums_of] at h1
    exact ⟨_, rfl, h1, h2⟩
section
variable {P : Program} {w : World} {K : PySem.W.Frag} {mg : Str → Option Value} {base : Heap} {CB CR : Addr}
theorem scRBook : FnScope ["self"] ["self"] (defScope sRBook) := ⟨rfl, rfl, rfl, by decide +kernel, rfl, by decide +kernel, by decide +kernel⟩
theorem ok_rbook {f : Addr} {fd : FuncData} (F : Fun K "book" "Reader.book" sRBook f fd) (T : ReadT K mg CR) : FnOk P w K mg base CX0 1 f fd ["self"] (spRBook K CB CR) := by
  refine F.ok scRBook (fun vs H Q E h => ?_) (fun cdv A outer s0 H vs Q E hr h => ?_)
  · obtain ⟨M, p, S, R, rfl, _⟩ := h
    rfl
  · obtain ⟨M, p, S, R, rfl, ⟨dx, pb, lt, ll, h1, h2, h3, h4⟩, q⟩ := h
    refine ⟨_, pss_one (ps_ret (pe_fld (pv 0) rfl)), ?_⟩
    exact ⟨_, rfl, p, CR, dx, _, _, rfl, h1, T.cl, T.n1, rflds_book _ _ _ _, q pb h2⟩
theorem scRMoods : FnScope ["self"] ["self"] (defScope sRMoods) := ⟨rfl, rfl, rfl, by decide +kernel, rfl, by decide +kernel, by decide +kernel⟩
theorem ok_rmoods {f : Addr} {fd : FuncData} (F : Fun K "moods" "Reader.moods" sRMoods f fd) (T : ReadT K mg CR) : FnOk P w K mg base CX0 1 f fd ["self"] (spRMoods K CB CR) := by
  refine F.ok scRMoods (fun vs H Q E h => ?_) (fun cdv A outer s0 H vs Q E hr h => ?_)
  · obtain ⟨M, p, S, R, rfl, _⟩ := h
    rfl
  · obtain ⟨M, p, S, R, rfl, ⟨dx, pb, lt, ll, h1, h2, h3, h4⟩, q⟩ := h
    refine ⟨_, pss_one (ps_ret (pe_fld (pv 0) rfl)), ?_⟩
    exact ⟨_, rfl, p, CR, dx, _, _, rfl, h1, T.cl, T.n2, rflds_moods _ _ _ _, q⟩
theorem scRTable : FnScope ["self", "sign"] ["self", "sign"] (defScope sRTable) := ⟨rfl, rfl, rfl, by decide +kernel, rfl, by decide +kernel, by decide +kernel⟩
theorem ok_rtable {f : Addr} {fd : FuncData} (F : Fun K "table" "Reader.table" sRTable f fd) (GY : GlobY mg) (T : ReadT K mg CR) : FnOk P w K mg base CX0 1 f fd ["self", "sign"] (spRTable K CB CR) := by
  refine F.ok scRTable (fun vs H Q E h => ?_) (fun cdv A outer s0 H vs Q E hr h => ?_)
  · obtain ⟨M, p, S, R, s, tb, rfl, _⟩ := h
    rfl
  · obtain ⟨M, p, S, R, s, tb, rfl, ⟨dx, pb, lt, ll, h1, h2, h3, h4⟩, ht, q⟩ := h
    refine ⟨_, pss_one (ps_ret (pe_callTy call_list_of (by rfl) GY.list (by decide +kernel) (pa_cons (pe_ix ix_list (pe_fld (pv 0) rfl) (pv 1) (fun _ _ => rfl)) pa_nil))), ?_⟩
    refine (evd_ixL (K := K) (M := M) (j := s) (evd_fld (i := 0) rfl h1 T.cl T.n3 (rflds_tables _ _ _ _) h3) (evd_var (i := 1) rfl (.int (s : Int))) rfl (tabsAt ht)).use fun v d H1 e1 dv pd => ?_
    subst pd
    obtain ⟨a, rfl, ha, _⟩ := dt_listN dv
    exact ⟨_, _, rfl, .inl (sq_of ha), fun l hl => q l _ (fresh_back e1 hl) (e1.trans (Ex.new hl)) upd_same⟩
theorem scRLiked : FnScope ["self"] ["self"] (defScope sRLiked) := ⟨rfl, rfl, rfl, by decide +kernel, rfl, by decide +kernel, by decide +kernel⟩
theorem ok_rliked {f : Addr} {fd : FuncData} (F : Fun K "liked" "Reader.liked" sRLiked f fd) (GY : GlobY mg) (T : ReadT K mg CR) : FnOk P w K mg base CX0 1 f fd ["self"] (spRLiked K CB CR) := by
  refine F.ok scRLiked (fun vs H Q E h => ?_) (fun cdv A outer s0 H vs Q E hr h => ?_)
  · obtain ⟨M, p, S, R, rfl, _⟩ := h
    rfl
  · obtain ⟨M, p, S, R, rfl, ⟨dx, pb, lt, ll, h1, h2, h3, h4⟩, q⟩ := h
    refine ⟨_, pss_one (ps_ret (pe_callTy call_list_of (by rfl) GY.list (by decide +kernel) (pa_cons (pe_fld (pv 0) rfl) pa_nil))), ?_⟩
    obtain ⟨a, e, ha, _⟩ := dt_listN h4
    cases e
    exact ⟨_, rfl, p, CR, dx, _, _, rfl, h1, T.cl, T.n4, rflds_liked _ _ _ _, _, _, rfl, .inl (sq_of ha), fun l hl => q l _ hl (Ex.new hl) upd_same⟩
theorem scRLead : FnScope ["self", "sign", "kids"] ["self", "sign", "kids"] (defScope sRLead) := ⟨rfl, rfl, rfl, by decide +kernel, rfl, by decide +kernel, by decide +kernel⟩
theorem ok_rlead {f : Addr} {fd : FuncData} (F : Fun K "lead" "Reader.lead" sRLead f fd) (T : ReadT K mg CR) (B : OneF P w K mg base "place_in_table" 1 ["moods", "kids"] (spPlace K)) : FnOk P w K mg base CX0 2 f fd ["self", "sign", "kids"] (spRLead K CB CR) := by
  obtain ⟨f1, d1, m1, k1, g1, b1⟩ := B
  refine F.ok scRLead (fun vs H Q E h => ?_) (fun cdv A outer s0 H vs Q E hr h => ?_)
  · obtain ⟨M, p, S, R, s, z, k, rfl, _⟩ := h
    rfl
  · obtain ⟨M, p, S, R, s, z, k, rfl, ⟨dx, pb, lt, ll, h1, h2, h3, h4⟩, hz, g, hK, hs, hk, hm, q⟩ := h
    refine ⟨_, pss_one (ps_ret (pe_ix ix_list (pe_ix ix_list (pe_fld (pv 0) rfl) (pv 1) (fun _ _ => rfl)) (pe_call g1 hr rfl m1 k1 b1 .nil pass0 (pa_cons (pe_fld (pv 0) rfl) (pa_cons (pv 2) pa_nil))) (fun _ _ => rfl))), ?_⟩
    obtain ⟨tb, ht, hl, _⟩ := g.led hs hk hm
    have hk2 : k.length ≤ 2 := by rw [hk]; exact ks_le hK s
    refine s_retP (K := K) (M := M) (evd_ixL (j := spotN R.moods k) (i := (spotN R.moods k : Int)) (evd_ixL (j := s) (evd_fld (i := 0) rfl h1 T.cl T.n3 (rflds_tables _ _ _ _) h3) (evd_var (i := 1) rfl (.int (s : Int))) rfl (tabsAt ht)) ?_ rfl (by rw [List.getElem?_map, ofN_at hl]; rfl)) fun x d H2 e2 dx pd => ?_
    · intro H1 e Q q
      refine ⟨_, rfl, p, CR, dx, _, _, rfl, e _ _ h1, T.cl, T.n2, rflds_moods _ _ _ _, _, rfl, R.moods, z, k, rfl, hz.ex e, g.m6, hk2, hm, fun H' e' => q _ _ H' e' (.int _) rfl⟩
    · subst pd
      cases dx
      exact q H2 e2
end
end TH
set_option maxRecDepth 100000
set_option maxHeartbeats 4000000
namespace TH
open PySem L2 Evl
abbrev sLRow : Stmt := top 32
/-! ### a tree is drawn -/
def spLRow (K : PySem.W.Frag) : Sp := fun vs H Q _ => ∃ (M : Addr → Prop) (b : Addr) (v : V) (S : List Sg) (m : Nat), vs = [.ref b, v, .int (m : Int)] ∧ Ok M H ∧ H b = some (Box b) ∧ Dt K M H v (.list (S.map sgD)) ∧ Good S ∧ 1 ≤ m ∧ m ≤ 1000 ∧
  ∀ (u : V) (t : Tr) (H' : Hp), Ex H H' → OkT S t → t.size ≤ m → Dt K MF H' u (rowD t) → Q u H'
structure GlobU (mg : Str → Option Value) : Prop where
  tuple : mg "tuple" = none
section
variable {P : Program} {w : World} {K : PySem.W.Frag} {mg : Str → Option Value} {base : Heap} {C : Addr}
abbrev nLRow : List Str := ["_law_box_here", "_law_signs_here", "_law_most", "_law_row_here", "_law_wanted", "_law_room", "_law_some", "_law_sign"]
theorem scLRow : FnScope nLRow ["_law_box_here", "_law_signs_here", "_law_most"] (defScope sLRow) := ⟨rfl, rfl, rfl, by decide +kernel, rfl, by decide +kernel, by decide +kernel⟩
theorem ok_lrow {f fT : Addr} {fd fdT : FuncData} (F : Fun K "_law_row" "_law_row" sLRow f fd) (G : Glob mg) (GU : GlobU mg)
    (GT : FnOk P w K mg base CX0 2 fT fdT ["_law_box_here", "_law_count"] spTake) (FT : PySem.W.keepIn K (.ref fT) = true) (mT : mg "_law_take" = some (.ref fT)) (bT : Binds K fdT ["_law_box_here", "_law_count"] []) :
    FnOk P w K mg base CX0 3 f fd ["_law_box_here", "_law_signs_here", "_law_most"] (spLRow K) := by
  refine F.ok scLRow (fun vs H Q E h => ?_) (fun cdv A outer s H vs Q E hr h => ?_)
  · obtain ⟨M, b, v, S, m, rfl, _⟩ := h
    rfl
  · obtain ⟨M, b, v, S, m, rfl, ok, hb, hv, gS, m1, m2, q⟩ := h
    have hu := hu64 hr
    refine ⟨_, pss_cons (ps_par (by rfl) scLRow.nd (i := 3) (j := 4) rfl rfl (by decide) rfl rfl (pa_cons (pe_lst pa_nil) (pa_cons pe_int pa_nil)) (by rfl))
      (pss_cons (ps_while PassesOwn.never (pt_cmpR op_gt (pv 4) pe_int (nomark _))
        (pss_cons (ps_set (i := 5) scLRow.nd rfl (.inr rfl) (pe_op op_sub (pe_op op_sub (pv 2) (pe_callB call_len_seq (by rfl) G.len PySem.boot_len (pa_cons (pv 3) pa_nil))) (pv 4)))
        (pss_cons (ps_setLc (i := 6) (own := [("_law_sign", 7)]) (g := gName 7) (by rfl) scLRow.nd rfl rfl (sw_true rfl rfl rfl (by decide +kernel)) (pi_range1 rfl G.range (pa_cons (pe_callB call_len_seq (by rfl) G.len PySem.boot_len (pa_cons (pv 1) pa_nil)) pa_nil))
            (blkOk_by (N := nLRow) (sc := defScope sLRow) (by decide +kernel)) (fun _ _ _ _ _ => pg_name (i := 7) scLRow.nd rfl (.inl rfl))
            (fun _ _ _ _ _ => pts_one (pt_chain op_lt op_le pe_int (pe_ix (ix_tupK (K := K) rfl) (pe_ix (ix_listK (K := K) rfl) (pv 1) (pv 7) (fun _ _ => rfl)) pe_int (fun _ _ => rfl)) (pv 5))) (fun _ _ _ _ _ => pv 7))
        (pss_cut (ps_if (PW.pt (pw_or (pt_cmpR (op_eqD hu) (pv 6) (pe_lst pa_nil) (nomark _)) (pw_or1 (pt_cmpR op_eq (pe_call GT hr rfl mT FT bT .nil pass0 (pa_cons (pv 0) (pa_cons pe_int pa_nil))) pe_int (nomark _)))))
          (pss_one (ps_setLc (i := 6) (own := [("_law_sign", 7)]) (g := gName 7) (by rfl) scLRow.nd rfl rfl (sw_true rfl rfl rfl (by decide +kernel)) (pi_range1 rfl G.range (pa_cons (pe_callB call_len_seq (by rfl) G.len PySem.boot_len (pa_cons (pv 1) pa_nil)) pa_nil))
            (blkOk_by (N := nLRow) (sc := defScope sLRow) (by decide +kernel)) (fun _ _ _ _ _ => pg_name (i := 7) scLRow.nd rfl (.inl rfl))
            (fun _ _ _ _ _ => pts_one (pt_cmpR op_eq (pe_ix (ix_tupK (K := K) rfl) (pe_ix (ix_listK (K := K) rfl) (pv 1) (pv 7) (fun _ _ => rfl)) pe_int (fun _ _ => rfl)) pe_int (nomark _))) (fun _ _ _ _ _ => pv 7))) pss_nil)
        (pss_cons (ps_set (i := 7) scLRow.nd rfl (.inl rfl) (pe_ix ix_list (pv 6) (pe_call GT hr rfl mT FT bT .nil pass0 (pa_cons (pv 0) (pa_cons (pe_callB call_len_seq (by rfl) G.len PySem.boot_len (pa_cons (pv 6) pa_nil)) pa_nil))) (fun _ _ => rfl)))
        (pss_cons (ps_expr (pe_bm PySem.F.plainAttrs_list PySem.F.slot_list_append PySem.F.type_list_append mt_append (pv 3) (pa_cons (pv 7) pa_nil)))
        (pss_one (ps_set (i := 4) scLRow.nd rfl (.inl rfl) (pe_op op_add (pe_op op_sub (pv 4) pe_int) (pe_ix ix_tup (pe_ix ix_list (pv 1) (pv 7) (fun _ _ => rfl)) pe_int (fun _ _ => rfl)))))))))))
      (pss_one (ps_ret (pe_callTy call_tuple_of (by rfl) GU.tuple (by decide +kernel) (pa_cons (pv 3) pa_nil))))), ?_⟩
    refine ⟨by decide, fun l hl => ⟨_, _, rfl, ?_⟩⟩
    have e1 : Ex H (upd H l (.lst [])) := Ex.new hl
    have hl1 : (upd H l (.lst [])) l = some (.lst []) := upd_same
    generalize upd H l (.lst []) = H1 at e1 hl1
    have kl := gS.len
    have kn : ∀ {j : Nat} {r : Sg}, S[j]? = some r → 0 ≤ r.2 ∧ r.2 ≤ 2 := fun h => gS.kids _ (List.mem_of_getElem? h)
    refine q_while (fun k σ' H' => Ex H H' ∧ ∃ (r : List Nat) (d : Nat) (u5 u6 u7 : Option V), σ' = [some (.ref b), some v, some (.int (m : Int)), some (.ref l), some (.int (d : Int)), u5, u6, u7] ∧ H' l = some (.lst (nums r)) ∧ Tr.run S.length (ks S) 1 r = some d ∧ r.length + d ≤ m ∧ k = m - r.length)
      m ⟨e1, [], 1, none, none, none, rfl, hl1, rfl, m1, rfl⟩ ?_
    rintro k σ' H2 ⟨e2, r, d, u5, u6, u7, rfl, hl2, hrun, hm, rfl⟩
    refine ⟨decide (0 < (d : Int)), evt_test (K := K) (M := MF) (evd_cmp (g := fun i j => decide (j < i)) (evd_var rfl (.int (d : Int))) evd_int), fun hd H3 e3 => ?_, fun hd H3 e3 => ?_⟩
    · have hd : 0 < d := by have := of_decide_eq_true hd; omega
      refine ⟨fun σ' H' => Ex H H' ∧ ∃ (r' : List Nat) (d' : Nat) (u5 u6 u7 : Option V), σ' = [some (.ref b), some v, some (.int (m : Int)), some (.ref l), some (.int (d' : Int)), u5, u6, u7] ∧ H' l = some (.lst (nums r')) ∧ Tr.run S.length (ks S) 1 r' = some d' ∧ r'.length + d' ≤ m ∧ r'.length = r.length + 1,
        fun σ2 H4 ⟨e4, r', d', u5, u6, u7, h1, h2, h3, h4, h5⟩ => ⟨m - r'.length, by omega, e4, r', d', u5, u6, u7, h1, h2, h3, h4, rfl⟩, ?_⟩
      have e23 := e2.trans e3
      have hl3 := e3 _ _ hl2
      have lD : ∀ {H'}, Ex H3 H' → Dt K MF H' (.ref l) (intsD r) := fun e => .lst (e _ _ hl3) (fun h => h) (nums_dts _)
      have ev3 : ∀ {H' σ}, σ[3]? = some (some (.ref l)) → Ex H3 H' → EvD K MF (tCB (fun xs H Q => ∃ p ys, xs = [.ref p] ∧ (SqL K H p ys ∨ SqT K H p ys) ∧ Q (.int ys.length) H) (tCons (tVar 3) tNil)) σ H' (.int (r.length : Int)) := fun {H' σ} hs e => by
        have h := evd_lenL (K := K) (M := MF) (σ := σ) (ta := tCons (tVar 3) tNil) (eva_cons (evd_var (d := intsD r) hs (lD e)) eva_nil)
        rw [List.length_map, ofN_len] at h
        exact h
      have evS : ∀ {M' : Addr → Prop} {H' σ}, σ[1]? = some (some v) → Dt K M' H' v (.list (S.map sgD)) → EvD K M' (tCB (fun xs H Q => ∃ p ys, xs = [.ref p] ∧ (SqL K H p ys ∨ SqT K H p ys) ∧ Q (.int ys.length) H) (tCons (tVar 1) tNil)) σ H' (.int (S.length : Int)) := fun {M' H' σ} hs hv => by
        have h := evd_lenL (K := K) (M := M') (σ := σ) (ta := tCons (tVar 1) tNil) (eva_cons (evd_var (d := .list (S.map sgD)) hs hv) eva_nil)
        rw [List.length_map] at h
        exact h
      -- room
      refine q_asgP (K := K) (M := MF) (evd_sub (evd_sub (evd_var rfl (.int (m : Int))) (ev3 rfl (Ex.refl _))) (evd_var rfl (.int (d : Int)))) fun vr dr H4 e4 dvr pr => ?_
      subst pr
      cases dvr
      have hv4 : Dt K M H4 v (.list (S.map sgD)) := hv.ex (e23.trans e4)
      have ok4 := ok.ex (e23.trans e4)
      -- the signs for which there is room
      have key : ∀ (f : Nat → Bool) (tt : TT) (H4 : Hp) (u6 u7 : Option V), Ok M H4 → Dt K M H4 v (.list (S.map sgD)) →
          (∀ (M' : Addr → Prop) (i : Nat) (H' : Hp), Dt K M' H' v (.list (S.map sgD)) → (i : Int) < (S.length : Int) → ∀ σ2 : L2.St, σ2[1]? = some (some v) → σ2[5]? = some (some (.int ((m : Int) - r.length - d))) → σ2[7]? = some (some (.int (i : Int))) → EvT tt σ2 H' (f i)) →
          EvD K M (tLc (iRng1 (tCons (tCB (fun xs H Q => ∃ p ys, xs = [.ref p] ∧ (SqL K H p ys ∨ SqT K H p ys) ∧ Q (.int ys.length) H) (tCons (tVar 1) tNil)) tNil)) (gName 7) tt (tVar 7) [7])
            [some (.ref b), some v, some (.int (m : Int)), some (.ref l), some (.int (d : Int)), some (.int ((m : Int) - r.length - d)), u6, u7] H4 (intsD ((List.range S.length).filter f)) := by
        intro f tt H4 u6 u7 ok4 hv4 ht
        refine (evp_lcR (PN := fun n => n = (S.length : Int)) f (fun i e => e = .int (i : Int)) ok4 ((eva_cons (evS rfl hv4) eva_nil).mono fun ds h => ⟨_, h, rfl⟩) (fun n hn => by omega) fun M' n i H' hm ok' pn hi e Qg qg => ?_).mono ?_
        · subst pn
          refine qg _ H' (Ex.refl _) ⟨rfl, ht M' i H' ((hm _ _ hv4)) hi _ rfl rfl rfl, fun _ => evd_var rfl (.int _)⟩
        · rintro dd ⟨n, es, rfl, rfl, pr⟩
          rw [Int.toNat_natCast] at pr
          rw [paired_map pr]
          show _ = PyData.list ((ofN _).map PyData.int)
          unfold ofN
          rw [List.map_map]
          rfl
      have arE : ∀ {M' : Addr → Prop} {i : Nat} {H' : Hp} {σ2 : L2.St}, Dt K M' H' v (.list (S.map sgD)) → (i : Int) < (S.length : Int) → σ2[1]? = some (some v) → σ2[7]? = some (some (.int (i : Int))) →
          EvD K M' (tOp (rIxT K) (tOp (rIxL K) (tVar 1) (tVar 7)) (tC (.int 1))) σ2 H' (.int (ks S i : Int)) := fun {M' i H' σ2} hv hi h1 h7 => by
        have hq : S[i]? = some (S[i]'(by omega)) := List.getElem?_eq_getElem _
        have h := evd_ar (k := 0) (K := K) (M := M') (σ := σ2) (te := tVar 7) h1 hv (evd_var h7 (.int (i : Int))) rfl hq
        have := kn hq
        rw [ks_of hq, Int.toNat_of_nonneg this.1]
        exact h
      refine q_asgP (K := K) (M := M) (key (fun i => decide (0 < ks S i) && decide ((ks S i : Int) ≤ (m : Int) - r.length - d)) _ H4 _ _ ok4 hv4 ?_) fun vs ds H5 e5 dvs pds => ?_
      · intro M' i H' hv hi σ2 h1 h5 h7
        refine et_is (evt_test (K := K) (M := M') (evd_chainI (g := fun i j => decide (i < j)) (g' := fun i j => decide (i ≤ j)) evd_int (arE hv hi h1 h7) (evd_var h5 (.int _)))) ?_
        congr 1
        by_cases h : 0 < ks S i
        · rw [decide_eq_true h, decide_eq_true (by omega)]
        · rw [decide_eq_false h, decide_eq_false (by omega)]
      subst pds
      have e05 := (e23.trans e4).trans e5
      have hv5 := hv4.ex e5
      have ok5 := ok4.ex e5
      have hb5 := e05 _ _ hb
      refine q_cut (M := fun σ' H6 => Ex H5 H6 ∧ ∃ (c : List Nat) (vc : V) (u7 : Option V), σ' = [some (.ref b), some v, some (.int (m : Int)), some (.ref l), some (.int (d : Int)), some (.int ((m : Int) - r.length - d)), some vc, u7] ∧ Dt K M H6 vc (intsD c) ∧ c ≠ [] ∧ c.length ≤ 6 ∧ ∀ j ∈ c, j < S.length ∧ ((ks S j : Int) ≤ (m : Int) - r.length - d ∨ ks S j = 0)) ?_ ?_
      · have memf : ∀ (f : Nat → Bool), ∀ j ∈ (List.range S.length).filter f, j < S.length ∧ f j = true := fun f j hj => by
          obtain ⟨h1, h2⟩ := List.mem_filter.mp hj
          exact ⟨List.mem_range.mp h1, h2⟩
        have lenf : ∀ (f : Nat → Bool), ((List.range S.length).filter f).length ≤ 6 := fun f => by
          have h := List.length_filter_le f (List.range S.length)
          rw [List.length_range] at h
          omega
        refine s_whenP (PB := fun b => b = false → (List.range S.length).filter (fun i => decide (0 < ks S i) && decide ((ks S i : Int) ≤ (m : Int) - r.length - d)) ≠ []) ?_ (fun _ H6 e6 => ?_) (fun hne H6 e6 => ?_)
        · refine (evtp_or (PB := fun _ => True) (evtp_of (evt_test (K := K) (M := M) (evd_eqD (evd_var rfl dvs) (evd_lst (ds := []) ok5 eva_nil) (flat_intsD _) (flat_list (n := 0) fun d hd => nomatch hd)))) fun _ => evtp_test (K := K) (M := M) ?_).mono ?_
          · refine evp_op (evp_take (ev_var rfl) hb5 evd_int (by decide) (by decide)) evd_int fun x y a dd H7 e7 dx dy px py Q q => ?_
            obtain ⟨k, rfl, k0, k1⟩ := px
            subst py
            cases dx
            cases dy
            exact ⟨rfl, q _ _ H7 (Ex.refl _) (.bl _) ⟨_, rfl, trivial⟩⟩
          · rintro b (⟨_, rfl⟩ | ⟨h, _⟩) hb
            · cases hb
            · rw [eqv_nil] at h
              exact of_decide_eq_false h.symm
        · refine s_asgP (K := K) (M := M) (key (fun i => decide (ks S i = 0)) _ H6 _ _ (ok5.ex e6) (hv5.ex e6) ?_) fun vc dc H7 e7 dvc pc => ?_
          · intro M' i H' hv hi σ2 h1 h5 h7
            refine et_is (evt_test (K := K) (M := M') (evd_eqI (arE hv hi h1 h7) evd_int)) ?_
            by_cases h : ks S i = 0
            · rw [decide_eq_true h, decide_eq_true (by omega)]
            · rw [decide_eq_false h, decide_eq_false (by omega)]
          subst pc
          refine ⟨e6.trans e7, _, vc, u7, rfl, dvc, ?_, lenf _, fun j hj => ?_⟩
          · obtain ⟨p, hp, hz⟩ := gS.leaf
            obtain ⟨j, hj⟩ := List.mem_iff_getElem?.mp hp
            intro h
            have : j ∈ (List.range S.length).filter (fun i => decide (ks S i = 0)) := List.mem_filter.mpr ⟨List.mem_range.mpr (List.getElem?_eq_some_iff.mp hj).1, by rw [ks_of hj, hz]; rfl⟩
            rw [h] at this
            cases this
          · obtain ⟨h1, h2⟩ := memf _ j hj
            exact ⟨h1, .inr (of_decide_eq_true h2)⟩
        · refine ⟨e6, _, vs, u7, rfl, dvs.ex e6, hne rfl, lenf _, fun j hj => ?_⟩
          obtain ⟨h1, h2⟩ := memf _ j hj
          rw [Bool.and_eq_true, decide_eq_true_eq, decide_eq_true_eq] at h2
          exact ⟨h1, .inl h2.2⟩
      · rintro σ' H6 ⟨e6, c, vc, u7, rfl, hc, hne, hc6, hfit⟩
        have lenc : 0 < c.length := List.length_pos_iff.mpr hne
        have hb6 := e6 _ _ hb5
        have ev6 : EvD K M (tCB (fun xs H Q => ∃ p ys, xs = [.ref p] ∧ (SqL K H p ys ∨ SqT K H p ys) ∧ Q (.int ys.length) H) (tCons (tVar 6) tNil)) [some (.ref b), some v, some (.int (m : Int)), some (.ref l), some (.int (d : Int)), some (.int ((m : Int) - r.length - d)), some vc, u7] H6 (.int (c.length : Int)) := by
          have h := evd_lenL (K := K) (M := M) (σ := [some (.ref b), some v, some (.int (m : Int)), some (.ref l), some (.int (d : Int)), some (.int ((m : Int) - r.length - d)), some vc, u7]) (ta := tCons (tVar 6) tNil) (eva_cons (evd_var (d := intsD c) rfl hc) eva_nil)
          rw [List.length_map, ofN_len] at h
          exact h
        -- sign = some[take(box, len(some))]
        refine q_asgP (K := K) (M := M) (P := fun dd => ∃ j : Nat, dd = .int (j : Int) ∧ j ∈ c) ?_ fun vj dj H7 e7 dvj pj => ?_
        · refine evp_op (evd_var rfl hc) (evp_take (ev_var rfl) hb6 ev6 (by omega) (Nat.lt_of_le_of_lt (show ((c.length : Nat) : Int).natAbs ≤ 6 by omega) (by decide))) fun x y a dd H7 e7 dx dy px py Q q => ?_
          obtain ⟨k, rfl, k0, k1⟩ := py
          subst px
          cases dy
          cases dx with
          | lst w1 w2 w3 =>
          obtain ⟨n, rfl⟩ := Int.eq_ofNat_of_zero_le k0
          have hn : c[n]? = some (c[n]'(by omega)) := List.getElem?_eq_getElem _
          obtain ⟨vv, hvv, dvv⟩ := w3.at (i := n) (d := .int ((c[n]'(by omega) : Nat) : Int)) (by rw [List.getElem?_map, ofN_at hn]; rfl)
          exact ⟨_, _, _, vv, rfl, rfl, sq_of w1, atI_nat hvv, q vv _ H7 (Ex.refl _) dvv ⟨_, rfl, List.mem_of_getElem? hn⟩⟩
        obtain ⟨j, rfl, hj⟩ := pj
        cases dvj
        obtain ⟨hjS, hjf⟩ := hfit j hj
        have e57 := e6.trans e7
        have hl7 : H7 l = some (.lst (nums r)) := (e57) _ _ (e5 _ _ (e4 _ _ hl3))
        -- row.append(sign)
        refine q_appP (K := K) (M := M) (P := (· = .int (j : Int))) hl7 rfl (evd_var rfl (.int _)) (by rw [nums_len]; exact Nat.lt_of_le_of_lt (show r.length ≤ 1000 by omega) (by decide)) fun va da H8 e8 dva pa => ?_
        subst pa
        cases dva
        have hlH : H l = none := hl
        have e08 : Ex H (upd H8 l (.lst (nums r ++ [V.int (j : Int)]))) := Ex.mut ((e05.trans e57).trans e8) hlH
        have hv8 : Dt K (more M l) H8 v (.list (S.map sgD)) := (hv.more hlH).ex ((e05.trans e57).trans e8)
        have hl8 := e8 _ _ hl7
        have hv9 : Dt K (more M l) (upd H8 l (.lst (nums r ++ [V.int (j : Int)]))) v (.list (S.map sgD)) := hv8.upd hl8 (.inr rfl)
        refine s_asgP (K := K) (M := more M l) (evd_add (evd_sub (evd_var rfl (.int (d : Int))) evd_int) (arE hv9 (by omega) rfl rfl)) fun vw dw H9 e9 dvw pw => ?_
        subst pw
        cases dvw
        have hrun' := Tr.run_snoc hrun hd hjS
        refine ⟨e08.trans e9, r ++ [j], d - 1 + ks S j, some (.int ((m : Int) - r.length - d)), some vc, some (.int (j : Int)), ?_, ?_, hrun', ?_, by rw [List.length_append]; rfl⟩
        · have hc : (d : Int) - 1 + (ks S j : Int) = ((d - 1 + ks S j : Nat) : Int) := by omega
          exact congrArg (fun z => [some (.ref b), some v, some (.int (m : Int)), some (.ref l), some (V.int z), some (.int ((m : Int) - r.length - d)), some vc, some (.int (j : Int))]) hc
        · rw [e9 _ _ upd_same, nums_app]
          rfl
        · rw [List.length_append, List.length_singleton]
          omega
    · have hd : d = 0 := by have := of_decide_eq_false hd; omega
      subst hd
      obtain ⟨t, ht, rfl⟩ := Tr.run_tree (ks_le gS.kidsOk) hrun
      refine ⟨_, rfl, l, _, rfl, .inl ⟨sq_of (e3 _ _ hl2), fun tp htp => ?_⟩⟩
      have hsz : t.size ≤ m := by unfold Tr.size; omega
      exact q (.ref tp) t _ ((e2.trans e3).trans (Ex.new htp)) ht hsz (.tup upd_same ((nums_dts _)))
end
end TH
set_option maxRecDepth 100000
set_option maxHeartbeats 4000000
namespace TH
open PySem L2 Evl
abbrev sLed : Stmt := top 10
/-! ### what a row leads to, from the leaves -/
def foldT (F : Nat → List PyData → PyData) : Tr → PyData
  | .n0 s => F s []
  | .n1 s t => F s [foldT F t]
  | .n2 s t u => F s [foldT F t, foldT F u]
theorem foldT_eq (F : Nat → List PyData → PyData) (t : Tr) : foldT F t = F t.root (t.kids.map (foldT F)) := by
  cases t <;> rfl
def waitF (F : Nat → List PyData → PyData) (ts : List Tr) : List PyData := (ts.map (foldT F)).reverse
theorem waitF_cons (F : Nat → List PyData → PyData) (t : Tr) (ts : List Tr) : waitF F (t :: ts) = waitF F ts ++ [foldT F t] := by
  unfold waitF
  rw [List.map_cons, List.reverse_cons]
theorem waitF_len (F : Nat → List PyData → PyData) (ts : List Tr) : (waitF F ts).length = ts.length := by
  unfold waitF
  rw [List.length_reverse, List.length_map]
theorem kidsNum' {S : List Sg} (hK : KidsOk S) {t : Tr} (hO : OkT S t) : ∃ r, S[t.root]? = some r ∧ r.2 = (t.kids.length : Int) := by
  have hrt : t.root < S.length := hO.root
  have hSr : S[t.root]? = some (S[t.root]'hrt) := List.getElem?_eq_getElem hrt
  refine ⟨_, hSr, ?_⟩
  have h1 := hO.ark
  rw [ks_of hSr] at h1
  have := hK _ (List.mem_of_getElem? hSr)
  omega
theorem okTsuf' {S : List Sg} {t u : Tr} {us : List Tr} {n : Nat} (hO : OkT S t) (h : Tr.suf n [t] = u :: us) : OkT S u :=
  Tr.okF_suf n (ts := [t]) (fun x hx => by rw [List.mem_singleton.mp hx]; exact hO) u (by rw [h]; exact List.mem_cons_self)
theorem woodLen' : ∀ ts : List Tr, ts.length ≤ Tr.sizeF ts
  | [] => Nat.le_refl _
  | t :: ts => by
    rw [Tr.sizeF_cons, List.length_cons]
    have := Tr.size_pos t
    have := woodLen' ts
    omega
theorem Dts.unsnoc {K : PySem.W.Frag} {M : Addr → Prop} {H : Hp} : ∀ {ds : List PyData} {d : PyData} {vs : List V}, Dts K M H vs (ds ++ [d]) → ∃ ws v, vs = ws ++ [v] ∧ Dts K M H ws ds ∧ Dt K M H v d
  | [], d, _, .cons h .nil => ⟨[], _, rfl, .nil, h⟩
  | e :: ds, d, _, .cons h t => by
    obtain ⟨ws, v, rfl, h1, h2⟩ := Dts.unsnoc t
    exact ⟨_ :: ws, v, rfl, .cons h h1, h2⟩
def spLed (K : PySem.W.Frag) (CB g : Addr) (sp : Sp) : Sp := fun vs H Q _ => ∃ (pb q a : Addr) (v : V) (S : List Sg) (t : Tr) (F : Nat → List PyData → PyData), vs = [.ref pb, v, .ref q] ∧ BookAt CB MF H pb S ∧ KidsOk S ∧ Dt K MF H v (rowD t) ∧ OkT S t ∧ t.size ≤ 1000 ∧ H q = some (.met g a) ∧
  (∀ (u : Tr) (z : V) (H1 : Hp) (Q1 : VK) (E1 : XK), Ex H H1 → OkT S u → Dt K MT H1 z (.tuple (u.kids.map (foldT F))) → (∀ x H2, Ex H1 H2 → Dt K MT H2 x (foldT F u) → Q1 x H2) → sp [.ref a, .int (u.root : Int), z] H1 Q1 E1) ∧
  ∀ x H', Ex H H' → Dt K MT H' x (foldT F t) → Q x H'
section
variable {P : Program} {w : World} {K : PySem.W.Frag} {mg : Str → Option Value} {base : Heap} {CB : Addr}
abbrev nLed : List Str := ["book", "row", "lead", "waiting", "sign", "kids", "_"]
theorem scLed : FnScope nLed ["book", "row", "lead"] (defScope sLed) := ⟨rfl, rfl, rfl, by decide +kernel, rfl, by decide +kernel, by decide +kernel⟩
theorem ok_led {f g : Addr} {fd : FuncData} {sp : Sp} {k : Nat} (F : Fun K "led" "led" sLed f fd) (G : Glob mg) (GR : GlobR mg) (GU : GlobU mg) (B : BookK P w K mg base CB) (Fg : FnR P w K mg base CX0 k g sp) (hk1 : 1 ≤ k) (fi : PySem.W.fnIn K g = true) :
    FnOk P w K mg base CX0 (k + 1) f fd ["book", "row", "lead"] (spLed K CB g sp) := by
  obtain ⟨T, _, ⟨f2, d2, m2, g2, b2⟩⟩ := B
  refine F.ok scLed (fun vs H Q E h => ?_) (fun cdv A outer s0 H vs Q E hr h => ?_)
  · obtain ⟨pb, q, a, v, S, t, F, rfl, _⟩ := h
    rfl
  · obtain ⟨pb, qm, am, v, S, t, F, rfl, hB, hK, hv, hO, hN, hq, hlead, q⟩ := h
    have hr1 : Room 1 _ := hr.mono hk1
    refine ⟨_, pss_cons (ps_set (i := 3) scLed.nd rfl (.inl rfl) (pe_lst pa_nil))
      (pss_cons (ps_for PassesOwn.never rfl (RT.pi_revA (by rfl) GR.reversed (pv 1)) (pg_name (i := 4) scLed.nd rfl (.inl rfl))
        (pss_cons (ps_set (i := 5) scLed.nd rfl (.inl rfl) (pe_lst pa_nil))
        (pss_cons (ps_for PassesOwn.never rfl (pi_range1 rfl G.range (pa_cons (pe_meth (pv 0) T.cl m2 g2 hr1 b2 .nil pass0 (pa_cons (pv 4) pa_nil)) pa_nil)) (pg_name (i := 6) scLed.nd rfl (.inl rfl))
          (pss_one (ps_expr (pe_bm PySem.F.plainAttrs_list PySem.F.slot_list_append PySem.F.type_list_append mt_append (pv 5) (pa_cons (pe_bm0 PySem.F.plainAttrs_list PySem.F.slot_list_pop PySem.F.type_list_pop mt_pop (pv 3)) pa_nil)))))
        (pss_one (ps_expr (pe_bm PySem.F.plainAttrs_list PySem.F.slot_list_append PySem.F.type_list_append mt_append (pv 3) (pa_cons (pe_callM (pv 2) Fg hr pass0 fi (pa_cons (pv 4) (pa_cons (pe_callTy call_tuple_of (by rfl) GU.tuple (by decide +kernel) (pa_cons (pv 5) pa_nil)) pa_nil))) pa_nil)))))))
      (pss_one (ps_ret (pe_ix ix_list (pv 3) pe_int (fun _ _ => rfl))))), ?_⟩
    obtain ⟨a, rfl, hS⟩ := dt_tupS hv
    have hlen : ((ofN t.row).map V.int).length = t.size := by rw [List.length_map, ofN_len]; rfl
    refine ⟨by decide, fun lw hw => ?_⟩
    have e1 : Ex H (upd H lw (.lst [])) := Ex.new hw
    have hw1 : (upd H lw (.lst [])) lw = some (.lst []) := upd_same
    generalize upd H lw (.lst []) = H1 at e1 hw1
    refine ⟨_, rfl, a, _, rfl, .inr ⟨SqT.of (e1 _ _ hS), RT.for_ItvT (fun i σ' H' => Ex H H' ∧ ∃ u4 u5 u6 xs, σ' = [some (.ref pb), some (.ref a), some (.ref qm), some (.ref lw), u4, u5, u6] ∧ H' lw = some (.lst xs) ∧ Dts K MT H' xs (waitF F (Tr.suf (t.size - i) [t])) ∧ i ≤ t.size)
      ⟨e1, none, none, none, [], rfl, hw1, ?_, Nat.zero_le _⟩ (fun i σ' H' h => SqT.of (h.1 _ _ hS)) ?_ ?_⟩⟩
    · rw [Nat.sub_zero, Tr.suf_nil.mpr (by rw [Tr.size_one]; exact Nat.le_refl _)]
      exact .nil
    · rintro i x σ' H2 hi hx ⟨e2, u4, u5, u6, xs, rfl, hw2, dw2, _⟩
      rw [hlen] at hi hx
      have hpN : t.size - 1 - i < Tr.sizeF [t] := by rw [Tr.size_one]; omega
      obtain ⟨u, us, hu, hroot⟩ := Tr.suf_cons hpN
      generalize hp : t.size - 1 - i = p' at hpN hu hroot hx
      have e0 : t.size - i = p' + 1 := by omega
      rw [Tr.row_one] at hroot
      have hx' : ((ofN t.row).map V.int)[p']? = some (.int (u.root : Int)) := by rw [List.getElem?_map, ofN_at hroot]; rfl
      rw [hx'] at hx
      cases hx
      have hOu : OkT S u := okTsuf' hO hu
      have hsuc : Tr.suf (p' + 1) [t] = u.kids ++ us := by rw [Tr.suf_succ, hu]; rfl
      rw [e0, hsuc] at dw2
      obtain ⟨r, hr1, hr2⟩ := kidsNum' hK hOu
      have hk2 := Tr.kids_le u
      have hul : us.length + 1 ≤ t.size := by
        have h1 := woodLen' (Tr.suf p' [t])
        have h2 := Tr.rowF_suf p' [t]
        have h3 : Tr.sizeF (Tr.suf p' [t]) ≤ t.size := by
          unfold Tr.sizeF
          rw [h2, List.length_drop, Tr.row_one]
          exact Nat.sub_le _ _
        rw [hu, List.length_cons] at h1
        rw [hu] at h3
        omega
      refine ⟨by decide, fun lk hlk => ?_⟩
      have hne : lw ≠ lk := ne_of_none hw2 hlk
      have hlkH : H lk = none := fresh_back e2 hlk
      have hwH : H lw = none := hw
      have e3 : Ex H (upd H2 lk (.lst [])) := e2.trans (Ex.new hlk)
      have hw3 : (upd H2 lk (.lst [])) lw = some (.lst xs) := by rw [upd_ne hne]; exact hw2
      have dw3 : Dts K MT (upd H2 lk (.lst [])) xs (waitF F (u.kids ++ us)) := dw2.ex (Ex.new hlk)
      have hk3 : (upd H2 lk (.lst [])) lk = some (.lst []) := upd_same
      generalize upd H2 lk (.lst []) = H3 at e3 hw3 dw3 hk3
      refine q_forR1 (ea_cons (ev_ofI (K := K) (M := MF) (evd_kids (j := u.root) rfl (hB.ex e3) (evd_var (i := 4) rfl (.int _)) rfl hr1)) ea_nil) (by omega)
        (fun j σ' H' => Ex H H' ∧ ∃ u6 xs ys, σ' = [some (.ref pb), some (.ref a), some (.ref qm), some (.ref lw), some (.int (u.root : Int)), some (.ref lk), u6] ∧ H' lw = some (.lst xs) ∧ Dts K MT H' xs (waitF F (u.kids.drop j ++ us)) ∧ H' lk = some (.lst ys) ∧ Dts K MT H' ys ((u.kids.take j).map (foldT F)))
        (fun H4 e4 => ⟨e3.trans e4, _, xs, [], rfl, e4 _ _ hw3, by rw [List.drop_zero]; exact dw3.ex e4, e4 _ _ hk3, .nil⟩) ?_ ?_
      · rintro j σ'' H4 hj ⟨e4, u6, xs4, ys4, rfl, hw4, dw4, hk4, dk4⟩
        rw [hr2] at hj
        have hj' : j < u.kids.length := by omega
        have hk : u.kids[j]? = some (u.kids[j]'hj') := List.getElem?_eq_getElem _
        generalize u.kids[j]'hj' = kd at hk
        have hd : u.kids.drop j = kd :: u.kids.drop (j + 1) := by
          obtain ⟨h1, h2⟩ := List.getElem?_eq_some_iff.mp hk
          rw [List.drop_eq_getElem_cons h1, h2]
        rw [hd, List.cons_append, waitF_cons] at dw4
        obtain ⟨ws, y, rfl, dws, dy⟩ := dw4.unsnoc
        have hlast : (ws ++ [y])[(ws ++ [y]).length - 1]? = some y := by
          rw [List.length_append, show ([y]).length = 1 from rfl, Nat.add_sub_cancel, List.getElem?_append_right (Nat.le_refl _), Nat.sub_self]
          rfl
        have hyl : ys4.length ≤ 2 := by
          have := dk4.length
          rw [List.length_map, List.length_take] at this
          omega
        refine ⟨_, rfl, .inl ⟨rfl, _, SqL.of hk4⟩, _, rfl, .inl ⟨rfl, _, SqL.of hw4⟩, lw, _, y, rfl, rfl, hw4, hlast, lk, ys4, y, rfl, rfl, by rw [upd_ne (Ne.symm hne)]; exact hk4, Nat.lt_of_le_of_lt hyl (by decide), ?_⟩
        have e5 : Ex H (upd H4 lw (.lst (ws ++ [y]).dropLast)) := Ex.mut e4 hwH
        have hk5 : (upd H4 lw (.lst (ws ++ [y]).dropLast)) lk = some (.lst ys4) := by rw [upd_ne (Ne.symm hne)]; exact hk4
        refine ⟨Ex.mut e5 hlkH, _, ws, ys4 ++ [y], rfl, ?_, ?_, upd_same, ?_⟩
        · rw [upd_ne hne, upd_same, List.dropLast_concat]
        · exact (dws.upd hw4 trivial).upd hk5 trivial
        · rw [Tr.take_snoc hk, List.map_append]
          exact ((dk4.append (.one dy)).upd hw4 trivial).upd hk5 trivial
      · rintro σ'' H4 ⟨e4, u6', xs4, ys4, rfl, hw4, dw4, hk4, dk4⟩
        rw [hr2, Int.toNat_natCast, List.take_length] at dk4
        rw [hr2, Int.toNat_natCast, List.drop_length, List.nil_append] at dw4
        refine ⟨_, rfl, .inl ⟨rfl, _, SqL.of hw4⟩, _, rfl, qm, am, rfl, _, rfl, _, rfl, lk, ys4, rfl, .inl ⟨sq_of hk4, fun tp htp => ?_⟩⟩
        have e5 : Ex H4 (upd H4 tp (.tup ys4)) := Ex.new htp
        refine ⟨(e4.trans e5) _ _ hq, hlead u (.ref tp) _ _ _ (e4.trans e5) hOu (.tup upd_same (dk4.ex e5)) fun x H6 e6 dx => ?_⟩
        have e46 := e5.trans e6
        have hw6 := e46 _ _ hw4
        refine ⟨lw, xs4, x, rfl, rfl, hw6, ?_, Ex.mut (e4.trans e46) hwH, _, _, _, xs4 ++ [x], rfl, upd_same, ?_, hi⟩
        · rw [dw4.length, waitF_len]
          exact Nat.lt_of_le_of_lt (show us.length ≤ 1000 by omega) (by decide)
        · rw [show t.size - (i + 1) = p' by omega, hu, waitF_cons]
          exact ((dw4.ex e46).append (.one dx)).upd hw6 trivial
    · rintro σ' H2 ⟨e2, u4, u5, u6, xs, rfl, hw2, dw2, _⟩
      rw [hlen, Nat.sub_self] at dw2
      have dw2 : Dts K MT H2 xs [foldT F t] := dw2
      cases dw2 with
      | cons h1 h2 =>
      cases h2
      exact ⟨_, rfl, lw, _, 0, _, rfl, rfl, SqL.of hw2, rfl, q _ H2 e2 h1⟩
end
end TH
set_option maxRecDepth 100000
set_option maxHeartbeats 4000000
namespace TH
open PySem L2 Evl
abbrev sIsRow : Stmt := top 7
abbrev sIsTree : Stmt := top 8
abbrev sCheck : Stmt := top 9
abbrev sSizes : Stmt := top 999999
def spIsRow (K : PySem.W.Frag) (C : Addr) : Sp := fun vs H Q _ => ∃ (p : Addr) (v : V) (S : List Sg) (ns : List Int), vs = [.ref p, v] ∧ BookAt C MF H p S ∧ KidsOk S ∧ Dt K MF H v (tupI ns) ∧ ∀ H', Ex H H' → Q (.bl (runB S 1 ns)) H'
section
variable {P : Program} {w : World} {K : PySem.W.Frag} {mg : Str → Option Value} {base : Heap} {C : Addr}
abbrev nIsRow : List Str := ["book", "row", "due", "sign"]
theorem scIsRow : FnScope nIsRow ["book", "row"] (defScope sIsRow) := ⟨rfl, rfl, rfl, by decide +kernel, rfl, by decide +kernel, by decide +kernel⟩
theorem ok_isrow {f : Addr} {fd : FuncData} (F : Fun K "is_row" "is_row" sIsRow f fd) (B : BookK P w K mg base C) (BH : OneM P w K mg base C "has" 1 ["self", "sign"] (spHas C)) : FnOk P w K mg base CX0 2 f fd ["book", "row"] (spIsRow K C) := by
  obtain ⟨T, _, ⟨f2, d2, m2, g2, b2⟩⟩ := B
  obtain ⟨f1, d1, m1, g1, b1⟩ := BH
  refine F.ok scIsRow (fun vs H Q E h => ?_) (fun cdv A outer s H vs Q E hr h => ?_)
  · obtain ⟨p, v, S, ns, rfl, _⟩ := h
    rfl
  · obtain ⟨p, v, S, ns, rfl, hB, hK, hv, q⟩ := h
    refine ⟨_, pss_cons (ps_set (i := 2) scIsRow.nd rfl (.inl rfl) pe_int)
      (pss_cons (ps_for PassesOwn.never rfl (pi_tup (pv 1)) (pg_name (i := 3) scIsRow.nd rfl (.inl rfl))
        (pss_cons (ps_if (PW.pt (pw_or (pt_cmpR op_eq (pv 2) pe_int (nomark _)) (pw_or1 (pt_not (pt_val (pe_meth (pv 0) T.cl m1 g1 hr b1 .nil pass0 (pa_cons (pv 3) pa_nil))))))) (pss_one (ps_ret pe_bl)) pss_nil)
        (pss_one (ps_set (i := 2) scIsRow.nd rfl (.inl rfl) (pe_op op_sub (pe_op op_add (pv 2) (pe_meth (pv 0) T.cl m2 g2 hr b2 .nil pass0 (pa_cons (pv 3) pa_nil))) pe_int)))))
      (pss_one (ps_ret (pe_cmpR op_eq (pv 2) pe_int (nomark _))))), ?_⟩
    obtain ⟨a, rfl, hS⟩ := dt_tup hv
    refine ⟨_, rfl, a, rfl, ⟨_, hS⟩, for_tup (K := K) (a := a) (xs := ns.map V.int) (fun i σ' H' => Ex H H' ∧ ∃ (d : Nat) (u : Option V), σ' = [some (.ref p), some (.ref a), some (.int (d : Int)), u] ∧ runB S 1 ns = runB S d (ns.drop i))
      ⟨Ex.refl H, 1, none, rfl, rfl⟩ (fun i σ' H' _ z => ex_t z.1 hS) ?_ ?_⟩
    · rintro i x σ' H1 hx ⟨e, d, u, rfl, hd⟩
      rw [List.getElem?_map] at hx
      cases hz : ns[i]? with
      | none =>
        rw [hz] at hx
        cases hx
      | some z =>
      rw [hz] at hx
      cases hx
      obtain ⟨hlt, ez⟩ := List.getElem?_eq_some_iff.mp hz
      have ed : ns.drop i = z :: ns.drop (i + 1) := by rw [List.drop_eq_getElem_cons hlt, ez]
      rw [ed, runB] at hd
      have hB1 := hB.ex e
      refine q_when (et_or (evt_test (K := K) (M := MF) (evd_eqI (evd_var rfl (.int (d : Int))) evd_int)) fun _ => evt_not (evt_B (K := K) (M := MF) (evd_has rfl hB1 (evd_var rfl (.int z))))) (fun hb H2 e2 => ?_) (fun hb H2 e2 => ?_)
      · rw [Bool.or_eq_true, Bool.not_eq_true', Bool.and_eq_false_iff, decide_eq_true_eq, decide_eq_false_iff_not, decide_eq_false_iff_not] at hb
        have hf : runB S 1 ns = false := by
          rw [hd]
          by_cases h0 : d = 0
          · rw [if_pos h0]
          · rw [if_neg h0, if_neg]
            omega
        have := q H2 (e.trans e2)
        rw [hf] at this
        exact this
      · rw [Bool.or_eq_false_iff, Bool.not_eq_false', Bool.and_eq_true, decide_eq_false_iff_not, decide_eq_true_eq, decide_eq_true_eq] at hb
        obtain ⟨h0, h1, h2⟩ := hb
        rw [if_neg (by omega), if_pos ⟨h1, h2⟩] at hd
        obtain ⟨j, rfl⟩ := Int.eq_ofNat_of_zero_le h1
        have hj : S[j]? = some (S[j]'(by omega)) := List.getElem?_eq_getElem _
        have hk := hK _ (List.mem_of_getElem? hj)
        refine s_asgP (K := K) (M := MF) (evd_sub (evd_add (evd_var rfl (.int (d : Int))) (evd_kids rfl (hB1.ex e2) (evd_var rfl (.int (j : Int))) rfl hj)) evd_int) fun v d' H3 e3 dv pd => ?_
        subst pd
        cases dv
        refine ⟨(e.trans e2).trans e3, d - 1 + ks S j, some (.int (j : Int)), ?_, hd⟩
        rw [ks_of hj]
        have hc : (d : Int) + (S[j]'(by omega)).2 - 1 = ((d - 1 + (S[j]'(by omega)).2.toNat : Nat) : Int) := by omega
        exact congrArg (fun z => [some (V.ref p), some (V.ref a), some (V.int z), some (V.int (j : Int))]) hc
    · rintro σ' H1 ⟨e, d, u, rfl, hd⟩
      rw [List.length_map, List.drop_length, runB] at hd
      refine s_retP (K := K) (M := MF) (evd_eqI (evd_var rfl (.int (d : Int))) evd_int) fun v d' H3 e3 dv pd => ?_
      subst pd
      cases dv
      have := q H3 (e.trans e3)
      rw [hd] at this
      have e0 : decide (d = 0) = decide ((d : Int) = 0) := by
        by_cases h : d = 0
        · rw [decide_eq_true h, decide_eq_true (by omega)]
        · rw [decide_eq_false h, decide_eq_false (by omega)]
      rw [e0] at this
      exact this
end
end TH
set_option maxRecDepth 100000
set_option maxHeartbeats 4000000
namespace TH
open PySem L2 Evl
def spIsTree (K : PySem.W.Frag) (C : Addr) : Sp := fun vs H Q _ => ∃ (p : Addr) (v : V) (S : List Sg) (ns : List Int), vs = [.ref p, v] ∧ BookAt C MF H p S ∧ KidsOk S ∧ Dt K MF H v (tupI ns) ∧ ∀ H', Ex H H' → Q (.bl (treeB S ns)) H'
def spCheck (K : PySem.W.Frag) (C CT : Addr) : Sp := fun vs H Q E => ∃ (p : Addr) (v : V) (S : List Sg) (ns : List Int), vs = [.ref p, v] ∧ BookAt C MF H p S ∧ KidsOk S ∧ Dt K MF H v (tupI ns) ∧
  (treeB S ns = true → ∀ H', Ex H H' → Q .non H') ∧ (treeB S ns = false → ∀ H', Ex H H' → E (.ref CT) none H')
section
variable {P : Program} {w : World} {K : PySem.W.Frag} {mg : Str → Option Value} {base : Heap} {C : Addr}
theorem scIsTree : FnScope ["book", "tree"] ["book", "tree"] (defScope sIsTree) := ⟨rfl, rfl, rfl, by decide +kernel, rfl, by decide +kernel, by decide +kernel⟩
theorem ok_istree {f : Addr} {fd : FuncData} (F : Fun K "is_tree" "is_tree" sIsTree f fd) (G : Glob mg) (GR : GlobR mg) (B : OneF P w K mg base "is_row" 2 ["book", "row"] (spIsRow K C)) : FnOk P w K mg base CX0 3 f fd ["book", "tree"] (spIsTree K C) := by
  obtain ⟨f1, d1, m1, k1, g1, b1⟩ := B
  obtain ⟨t, hL⟩ := GR.mostT
  refine F.ok scIsTree (fun vs H Q E h => ?_) (fun cdv A outer s H vs Q E hr h => ?_)
  · obtain ⟨p, v, S, ns, rfl, _⟩ := h
    rfl
  · obtain ⟨p, v, S, ns, rfl, hB, hK, hv, q⟩ := h
    refine ⟨_, pss_one (ps_ret (pe_and (pe_cmpR op_le (pe_callB call_len_seq (by rfl) G.len PySem.boot_len (pa_cons (pv 1) pa_nil)) (pe_glob rfl hL (show RelV (.int 40) _ from ⟨_, rfl⟩)) (nomark _)) (pe_one (pe_call g1 hr rfl m1 k1 b1 .nil pass0 (pa_cons (pv 0) (pa_cons (pv 1) pa_nil)))))), ?_⟩
    obtain ⟨a, rfl, hS⟩ := dt_tup hv
    refine ⟨_, rfl, a, _, rfl, .inr hS, _, _, rfl, rfl, _, rfl, ?_⟩
    rw [List.length_map]
    by_cases h : (ns.length : Int) ≤ 40
    · rw [decide_eq_true h]
      refine iteT ⟨_, rfl, _, rfl, p, .ref a, S, ns, rfl, hB, hK, hv, fun H' e => ?_⟩
      have := q H' e
      unfold treeB at this
      rw [decide_eq_true h] at this
      exact this
    · rw [decide_eq_false h]
      refine iteF ?_
      have := q H (Ex.refl _)
      unfold treeB at this
      rw [decide_eq_false h] at this
      exact this
theorem scCheck : FnScope ["book", "tree"] ["book", "tree"] (defScope sCheck) := ⟨rfl, rfl, rfl, by decide +kernel, rfl, by decide +kernel, by decide +kernel⟩
theorem ok_check {f CT : Addr} {fd : FuncData} (F : Fun K "check_tree" "check_tree" sCheck f fd) (TN : ExcT K mg "NoTree" CT) (B : OneF P w K mg base "is_tree" 3 ["book", "tree"] (spIsTree K C)) : FnOk P w K mg base (L2.CX P w) 4 f fd ["book", "tree"] (spCheck K C CT) := by
  obtain ⟨f1, d1, m1, k1, g1, b1⟩ := B
  refine F.okX scCheck (fun vs H Q E h => ?_) (fun cdv A outer s H vs Q E hr h => ?_)
  · obtain ⟨p, v, S, ns, rfl, _⟩ := h
    rfl
  · obtain ⟨p, v, S, ns, rfl, hB, hK, hv, qy, qn⟩ := h
    refine ⟨_, pss_one (ps_if (pt_not (pt_val (pe_call g1 hr rfl m1 k1 b1 .nil pass0 (pa_cons (pv 0) (pa_cons (pv 1) pa_nil))))) (pss_one (ps_raise rfl (takes_of rfl rfl rfl rfl) (pmk_own PySem.F.excBase_ValueError TN.x TN.g TN.k (raises_own TN.b TN.t) rfl))) pss_nil), ?_⟩
    refine ⟨_, rfl, _, rfl, p, v, S, ns, rfl, hB, hK, hv, fun H' e => ⟨_, rfl, ?_⟩⟩
    cases h : treeB S ns with
    | true => exact iteF (qy h H' e)
    | false => exact iteT (qn h H' e)
end
/-- a def that may raise -/
def OneX (P : Program) (w : World) (K : PySem.W.Frag) (mg : Str → Option Value) (base : Heap) (x : Str) (k : Nat) (ps : List Str) (sp : Sp) : Prop :=
  ∃ (f : Addr) (fd : FuncData), mg x = some (.ref f) ∧ PySem.W.keepIn K (.ref f) = true ∧ FnOk P w K mg base (L2.CX P w) k f fd ps sp ∧ Binds K fd ps []
def OneMX (P : Program) (w : World) (K : PySem.W.Frag) (mg : Str → Option Value) (base : Heap) (C : Addr) (m : Str) (k : Nat) (ps : List Str) (sp : Sp) : Prop :=
  ∃ (f : Addr) (fd : FuncData), Meth K C m f ∧ FnOk P w K mg base (L2.CX P w) k f fd ps sp ∧ Binds K fd ps []
end TH
set_option maxRecDepth 100000
set_option maxHeartbeats 4000000
namespace TH
open PySem L2 Evl
/-! ### Reader.mood, Reader.likes -/
def unN : PyData → Nat
  | .int i => i.toNat
  | _ => 0
def FR (R : Pl) (s : Nat) (ds : List PyData) : PyData := .int (ledN R s (ds.map unN) : Int)
theorem foldR (R : Pl) : ∀ t : Tr, foldT (FR R) t = .int (moodT R t : Int)
  | .n0 s => rfl
  | .n1 s t => by
    rw [foldT, foldR R t, moodT]
    rfl
  | .n2 s t u => by
    rw [foldT, foldR R t, foldR R u, moodT]
    rfl
theorem foldR_map (R : Pl) (ts : List Tr) : ts.map (foldT (FR R)) = (ofN (ts.map (moodT R))).map PyData.int := by
  unfold ofN
  rw [List.map_map, List.map_map]
  exact List.map_congr_left fun t _ => foldR R t
theorem row_pre {n : Nat} {ar : Nat → Nat} : ∀ (t u : Tr) (r q : List Nat), Tr.Ok n ar t → Tr.Ok n ar u → t.row ++ r = u.row ++ q → t = u ∧ r = q
  | .n0 s, u, r, q, ht, hu, e => by
    cases u with
    | n0 s' =>
      injection (show s :: r = s' :: q from e) with h1 h2
      exact ⟨by rw [h1], h2⟩
    | n1 s' a =>
      injection (show s :: r = s' :: (a.row ++ q) from e) with h1 h2
      have := ht.2.symm.trans ((congrArg ar h1).trans hu.2.1)
      omega
    | n2 s' a b =>
      injection (show s :: r = s' :: ((a.row ++ b.row) ++ q) from e) with h1 h2
      have := ht.2.symm.trans ((congrArg ar h1).trans hu.2.1)
      omega
  | .n1 s a, u, r, q, ht, hu, e => by
    cases u with
    | n0 s' =>
      injection (show s :: (a.row ++ r) = s' :: q from e) with h1 h2
      have := ht.2.1.symm.trans ((congrArg ar h1).trans hu.2)
      omega
    | n1 s' a' =>
      injection (show s :: (a.row ++ r) = s' :: (a'.row ++ q) from e) with h1 h2
      obtain ⟨h3, h4⟩ := row_pre a a' r q ht.2.2 hu.2.2 h2
      exact ⟨by rw [h1, h3], h4⟩
    | n2 s' a' b =>
      injection (show s :: (a.row ++ r) = s' :: ((a'.row ++ b.row) ++ q) from e) with h1 h2
      have := ht.2.1.symm.trans ((congrArg ar h1).trans hu.2.1)
      omega
  | .n2 s a b, u, r, q, ht, hu, e => by
    cases u with
    | n0 s' =>
      injection (show s :: ((a.row ++ b.row) ++ r) = s' :: q from e) with h1 h2
      have := ht.2.1.symm.trans ((congrArg ar h1).trans hu.2)
      omega
    | n1 s' a' =>
      injection (show s :: ((a.row ++ b.row) ++ r) = s' :: (a'.row ++ q) from e) with h1 h2
      have := ht.2.1.symm.trans ((congrArg ar h1).trans hu.2.1)
      omega
    | n2 s' a' b' =>
      injection (show s :: ((a.row ++ b.row) ++ r) = s' :: ((a'.row ++ b'.row) ++ q) from e) with h1 h2
      rw [List.append_assoc, List.append_assoc] at h2
      obtain ⟨h3, h4⟩ := row_pre a a' _ _ ht.2.2.1 hu.2.2.1 h2
      obtain ⟨h5, h6⟩ := row_pre b b' r q ht.2.2.2 hu.2.2.2 h4
      exact ⟨by rw [h1, h3, h5], h6⟩
theorem row_inj {S : List Sg} {t u : Tr} (ht : OkT S t) (hu : OkT S u) (e : ofN t.row = ofN u.row) : t = u := by
  have e1 : t.row = u.row := by
    have : ∀ r q : List Nat, ofN r = ofN q → r = q := by
      intro r
      induction r with
      | nil => intro q h; cases q with
        | nil => rfl
        | cons a q => cases h
      | cons a r ih => intro q h; cases q with
        | nil => cases h
        | cons b q =>
          injection (show (a : Int) :: ofN r = (b : Int) :: ofN q from h) with h1 h2
          rw [ih q h2, show a = b by omega]
    exact this _ _ e
  exact (row_pre t u [] [] ht hu (by rw [e1])).1
theorem treeB_tree {S : List Sg} (hk : KidsOk S) {ns : List Int} (h : treeB S ns = true) : ∃ t, OkT S t ∧ ns = ofN t.row ∧ t.size ≤ 40 := by
  unfold treeB at h
  rw [Bool.and_eq_true, decide_eq_true_eq] at h
  obtain ⟨t, ht, rfl⟩ := runB_tree hk h.2
  rw [ofN_len] at h
  exact ⟨t, ht, rfl, by unfold Tr.size; omega⟩
def spRMood (K : PySem.W.Frag) (CB CR CT : Addr) : Sp := fun vs H Q E => ∃ (p : Addr) (v : V) (S : List Sg) (R : Pl) (ns : List Int), vs = [.ref p, v] ∧ ReadAt K CB CR MF H p S R ∧ GoodR S R ∧ KidsOk S ∧ Dt K MF H v (tupI ns) ∧
  (treeB S ns = false → ∀ H', Ex H H' → E (.ref CT) none H') ∧ (∀ t, OkT S t → ns = ofN t.row → t.size ≤ 40 → ∀ H', Ex H H' → Q (.int (moodT R t : Int)) H')
def spRLikes (K : PySem.W.Frag) (CB CR CT : Addr) : Sp := fun vs H Q E => ∃ (p : Addr) (v : V) (S : List Sg) (R : Pl) (ns : List Int), vs = [.ref p, v] ∧ ReadAt K CB CR MF H p S R ∧ GoodR S R ∧ KidsOk S ∧ Dt K MF H v (tupI ns) ∧
  (treeB S ns = false → ∀ H', Ex H H' → E (.ref CT) none H') ∧ (∀ t, OkT S t → ns = ofN t.row → t.size ≤ 40 → ∀ H', Ex H H' → Q (.bl (decide (moodT R t ∈ R.liked))) H')
section
variable {P : Program} {w : World} {K : PySem.W.Frag} {mg : Str → Option Value} {base : Heap} {CB CR CT : Addr}
theorem scRMood : FnScope ["self", "tree"] ["self", "tree"] (defScope sRMood) := ⟨rfl, rfl, rfl, by decide +kernel, rfl, by decide +kernel, by decide +kernel⟩
theorem ok_rmood {f g : Addr} {fd : FuncData} (F : Fun K "mood" "Reader.mood" sRMood f fd) (T : ReadT K mg CR) (bm : BMeth K CR "lead" g) (B1 : OneX P w K mg base "check_tree" 4 ["book", "tree"] (spCheck K CB CT)) (B2 : OneF P w K mg base "led" 3 ["book", "row", "lead"] (spLed K CB g (spRLead K CB CR))) :
    FnOk P w K mg base (L2.CX P w) 5 f fd ["self", "tree"] (spRMood K CB CR CT) := by
  obtain ⟨f1, d1, m1, k1, g1, b1⟩ := B1
  obtain ⟨f2, d2, m2, k2, g2, b2⟩ := B2
  refine F.okX scRMood (fun vs H Q E h => ?_) (fun cdv A outer s0 H vs Q E hr h => ?_)
  · obtain ⟨p, v, S, R, ns, rfl, _⟩ := h
    rfl
  · obtain ⟨p, v, S, R, ns, rfl, hR, gR, hK, hv, qn, qy⟩ := h
    have hr3 : Room 3 _ := hr.mono (show 3 ≤ 4 by decide)
    refine ⟨_, pss_cons (ps_expr (pe_call (E := E) g1 hr rfl m1 k1 b1 .nil (passes_call (takes_of rfl rfl rfl rfl) fun _ _ _ _ h => h) (pa_cons (pe_fld (pv 0) rfl) (pa_cons (pv 1) pa_nil))))
      (pss_one (ps_ret (pe_call g2 hr3 rfl m2 k2 b2 .nil pass0 (pa_cons (pe_fld (pv 0) rfl) (pa_cons (pv 1) (pa_cons (pe_bnM (pv 0) T.cl bm) pa_nil)))))), ?_⟩
    have hR0 := hR
    obtain ⟨dx, pb, lt, ll, h1, h2, h3, h4⟩ := hR
    refine ⟨_, rfl, p, CR, dx, _, _, rfl, h1, T.cl, T.n1, rflds_book _ _ _ _, _, rfl, pb, v, S, ns, rfl, h2, hK, hv, fun ht H1 e1 => ?_, qn⟩
    obtain ⟨t, hO, rfl, h40⟩ := treeB_tree hK ht
    refine ⟨_, rfl, p, CR, dx, _, _, rfl, e1 _ _ h1, T.cl, T.n1, rflds_book _ _ _ _, _, rfl, _, rfl, p, dx, _, rfl, e1 _ _ h1, rflds_no _ _ _ _ (by decide +kernel) (by decide +kernel) (by decide +kernel) (by decide +kernel), fun q hq => ?_⟩
    have e2 : Ex H (upd H1 q (.met g p)) := e1.trans (Ex.new hq)
    refine ⟨pb, q, p, v, S, t, FR R, rfl, h2.ex e2, hK, hv.ex e2, hO, by omega, upd_same, fun u z H3 Q1 E1 e3 hu hz k => ?_, fun x H3 e3 dx3 => ?_⟩
    · rw [foldR_map] at hz
      refine ⟨MF, p, S, R, u.root, z, u.kids.map (moodT R), rfl, hR0.ex (e2.trans e3), dt_any hz, gR, hK, hu.root, by rw [List.length_map]; exact hu.ark.symm, fun x hx => ?_, fun H4 e4 => ?_⟩
      · obtain ⟨kd, hk, rfl⟩ := List.mem_map.mp hx
        exact gR.mood kd (hu.kids kd hk)
      · refine k _ H4 e4 ?_
        rw [foldR, moodT_eq]
        exact .int _
    · rw [foldR] at dx3
      cases dx3
      exact qy t hO rfl h40 H3 (e2.trans e3)
theorem scRLikes : FnScope ["self", "tree"] ["self", "tree"] (defScope sRLikes) := ⟨rfl, rfl, rfl, by decide +kernel, rfl, by decide +kernel, by decide +kernel⟩
theorem ok_rlikes {f : Addr} {fd : FuncData} (F : Fun K "likes" "Reader.likes" sRLikes f fd) (T : ReadT K mg CR) (B1 : OneMX P w K mg base CR "mood" 5 ["self", "tree"] (spRMood K CB CR CT)) :
    FnOk P w K mg base (L2.CX P w) 6 f fd ["self", "tree"] (spRLikes K CB CR CT) := by
  obtain ⟨f1, d1, m1, g1, b1⟩ := B1
  refine F.okX scRLikes (fun vs H Q E h => ?_) (fun cdv A outer s0 H vs Q E hr h => ?_)
  · obtain ⟨p, v, S, R, ns, rfl, _⟩ := h
    rfl
  · obtain ⟨p, v, S, R, ns, rfl, hR, gR, hK, hv, qn, qy⟩ := h
    refine ⟨_, pss_one (ps_ret (pe_cmpR op_in_seq (pe_meth (E := E) (pv 0) T.cl m1 g1 hr b1 .nil (passes_call (takes_of rfl rfl rfl rfl) fun _ _ _ _ h => h) (pa_cons (pv 1) pa_nil)) (pe_fld (pv 0) rfl) (by rfl))), ?_⟩
    have hR0 := hR
    obtain ⟨dx, pb, lt, ll, h1, h2, h3, h4⟩ := hR
    refine ⟨_, rfl, p, dx, _, rfl, h1, rflds_no _ _ _ _ (by decide +kernel) (by decide +kernel) (by decide +kernel) (by decide +kernel), _, rfl, p, v, S, R, ns, rfl, hR0, gR, hK, hv, qn, fun t hO ht h40 H1 e1 => ?_⟩
    obtain ⟨a, ea, ha, _⟩ := dt_listN (h4.ex e1)
    cases ea
    refine ⟨_, rfl, p, CR, dx, _, _, rfl, e1 _ _ h1, T.cl, T.n4, rflds_liked _ _ _ _, ll, nums R.liked, rfl, .inl (sq_of ha), rfl, ?_, ?_⟩
    · rw [← nums_of]
      exact flat_ints _
    · have e : inV (.int (moodT R t : Int)) (nums R.liked) = decide (moodT R t ∈ R.liked) := by
        rw [← nums_of, inV_int]
        have : ((moodT R t : Int) ∈ ofN R.liked) ↔ moodT R t ∈ R.liked := by
          unfold ofN
          rw [List.mem_map]
          constructor
          · rintro ⟨x, hx, e⟩
            have : x = moodT R t := by omega
            rw [← this]
            exact hx
          · intro h
            exact ⟨_, h, rfl⟩
        by_cases h : moodT R t ∈ R.liked
        · rw [decide_eq_true h, decide_eq_true (this.mpr h)]
        · rw [decide_eq_false h, decide_eq_false (fun z => h (this.mp z))]
      show Q (.bl (inV (.int (moodT R t : Int)) (nums R.liked))) H1
      rw [e]
      exact qy t hO ht h40 H1 e1
end
end TH
set_option maxRecDepth 100000
set_option maxHeartbeats 4000000
namespace TH
open PySem L2 Evl
def b2i (b : Bool) : Int := if b = true then 1 else 0
section
variable {K : PySem.W.Frag} {M M' : Addr → Prop} {H H1 H' : Hp} {σ : L2.St} {ta tb te tc tl : TE} {tt : TT} {g : TG} {vs : List Nat} {tr : TA} {D : Ends} {tz tu : TS}
theorem filter_all {α : Type} : ∀ l : List α, l.filter (fun _ => true) = l
  | [] => rfl
  | a :: l => by rw [List.filter_cons_of_pos rfl, filter_all l]
theorem evd_intB {b : Bool} (h : EvD K M te σ H (.bool b)) : EvD K M (tCB (fun xs H Q => (∃ i, xs = [.int i] ∧ Q (.int i) H) ∨ ∃ k, xs = [.bl k] ∧ Q (.int (if k then 1 else 0)) H) (tCons te tNil)) σ H (.int (b2i b)) := fun H1 e Q q =>
  h H1 e _ fun v d H2 e2 dv pd => by
    subst pd
    cases dv
    refine .inr ⟨b, rfl, ?_⟩
    have : (if b = true then (1 : Int) else 0) = b2i b := rfl
    rw [this]
    exact q _ _ H2 e2 (.int _) rfl
theorem evp_catA {PA PB : PyData → Prop} (ha : EvP K M ta σ H PA) (hb : EvP K M tb σ H PB) (hp : ∀ a b, PA a → PB b → ∃ ds es, a = .tuple ds ∧ b = .tuple es ∧ ds.length + es.length ≤ 100000) :
    EvP K M (tOp (rCatA K) ta tb) σ H (fun d => ∃ ds es, PA (.tuple ds) ∧ PB (.tuple es) ∧ d = .tuple (ds ++ es)) :=
  evp_op ha hb fun x y a b H1 e dx dy px py Q q => by
    obtain ⟨ds, es, rfl, rfl, hs⟩ := hp a b px py
    cases dx with
    | tup h1 h3 =>
      cases dy with
      | tup k1 k3 =>
        refine ⟨_, _, _, _, rfl, rfl, SqT.of h1, SqT.of k1, by rw [h3.length, k3.length]; exact sz_of hs, fun e0 => ?_, fun _ e0 => ?_, fun _ _ p hp => q _ _ _ (Ex.new hp) (.tup upd_same ((h3.append k3).ex (Ex.new hp))) ⟨_, _, px, py, rfl⟩⟩
        · subst e0
          cases h3
          exact q _ _ H1 (Ex.refl _) (.tup k1 k3) ⟨_, _, px, py, rfl⟩
        · subst e0
          cases k3
          exact q _ _ H1 (Ex.refl _) (.tup h1 h3) ⟨_, _, px, py, by rw [List.append_nil]⟩
theorem evn_lcL {ds : List PyData} (f : PyData → Bool) (F : PyData → PyData) (ok : Ok M H) (hl : EvD K M tl σ H (.list ds)) (hz : ds.length < sizeLine)
    (hs : ∀ (M' : Addr → Prop) (d : PyData) (x : V) (H' : Hp), (∀ v d, Dt K M H v d → Dt K M' H' v d) → Ok M' H' → d ∈ ds → Ex H H' → Dt K M' H' x d →
      ∀ Qg : L2.St → Hp → Prop, (∀ σ2 H2, Ex H' H2 → Turned K M' σ vs tt te (f d) (· = F d) σ2 H2 → Qg σ2 H2) → g x (wipe σ vs) H' Qg) :
    EvNew K M (tLc (iList K tl) g tt te vs) σ H (· = (ds.filter f).map F) := fun H0 e Q q =>
  hl H0 e _ fun v d H1 e1 dv pd => by
    subst pd
    cases dv with
    | lst h1 h2 h3 =>
      rename_i a xs
      refine ⟨a, rfl, ⟨xs, sq_of h1⟩, fun D hD => ?_⟩
      have hw : Walk (Itl K a) ds.length (fun H => SqL K H a xs) (YAt xs) := by
        rw [← h3.length]
        exact walk_list
      refine lc_data (K := K) (σ := σ) (vs := vs) ds hw ((ok.ex (e.trans e1))) hD hz f (fun d e => e = F d) (fun H e => sq_of (e _ _ h1)) (fun M' i d x H2 H' hm ok' hd e2 y Qg qg => ?_) (fun H2 es e2 dd pr => ?_)
      · obtain ⟨rfl, hx⟩ := y
        obtain ⟨d', hd', dx⟩ := h3.get hx
        rw [hd] at hd'
        cases hd'
        exact hs M' d x _ (fun v d h => (hm v d (h.ex (e.trans e1))).ex e2) ok' (List.mem_of_getElem? hd) ((e.trans e1).trans e2) ((hm _ _ dx).ex e2) Qg qg
      · cases dd with
        | lst w1 w2 w3 => exact q D _ es H2 (fresh_back e1 hD) (e1.trans e2) w1 w3 (paired_map pr)
theorem op_catAK {X : Cx} (h : X.K = K) : OpR X (binaryOp .Add) (rCatA K) := by
  subst h
  exact op_catA
theorem call_len_seqK {X : Cx} (h : X.K = K) : CallR X (.builtin "len") (fun xs H Q => ∃ p ys, xs = [.ref p] ∧ (SqL K H p ys ∨ SqT K H p ys) ∧ Q (.int ys.length) H) := by
  subst h
  exact call_len_seq
theorem s_retOp {r : R2} {ta tb : TE} {σ : L2.St} {H : Hp} {D : Ends} (h : ta σ H fun x H1 => tb σ H1 fun y H2 => r x y H2 D.rt) : tRet (tOp r ta tb) D σ H := h
theorem s_forR2 {K : PySem.W.Frag} {M : Addr → Prop} {σ : L2.St} {H : Hp} {D : Ends} {tu : TS} {ta : TA} {j : Nat} {lo hi : Int} (h : EvDA K M ta σ H [.int lo, .int hi]) (h1 : -100000 ≤ lo ∧ lo ≤ 100000 ∧ -100000 ≤ hi ∧ hi ≤ 100000) (Pv : Nat → L2.St → Hp → Prop) (h0 : ∀ H1, Ex H H1 → Pv 0 σ H1)
    (hs : ∀ (i : Nat) σ' H', i < (hi - lo).toNat → Pv i σ' H' → tu { D with nx := Pv (i + 1), ct := Pv (i + 1), bk := D.nx } (σ'.set j (some (.int (lo + i)))) H') (hd : ∀ σ' H', Pv (hi - lo).toNat σ' H' → D.nx σ' H') : tFor (iRng2 ta) (gName j) tu D σ H :=
  h.use fun vs ds H1 e1 dv pd => by
    subst pd
    cases dv with
    | cons d1 d2 =>
    cases d2 with
    | cons d2 d3 =>
    cases d3
    cases d1
    cases d2
    exact ⟨lo, hi, rfl, ⟨by omega, by omega, by omega, by omega⟩, for_range Pv (h0 H1 e1) (fun i σ' H' hi p => hs i σ' H' hi p) hd⟩
theorem q_forR2 {K : PySem.W.Frag} {M : Addr → Prop} {σ : L2.St} {H : Hp} {D : Ends} {tu tz : TS} {ta : TA} {j : Nat} {lo hi : Int} (h : EvDA K M ta σ H [.int lo, .int hi]) (h1 : -100000 ≤ lo ∧ lo ≤ 100000 ∧ -100000 ≤ hi ∧ hi ≤ 100000) (Pv : Nat → L2.St → Hp → Prop) (h0 : ∀ H1, Ex H H1 → Pv 0 σ H1)
    (hs : ∀ (i : Nat) σ' H', i < (hi - lo).toNat → Pv i σ' H' → tu { D with nx := Pv (i + 1), ct := Pv (i + 1), bk := tz D } (σ'.set j (some (.int (lo + i)))) H') (hd : ∀ σ' H', Pv (hi - lo).toNat σ' H' → tz D σ' H') : tSeq (tFor (iRng2 ta) (gName j) tu) tz D σ H :=
  s_forR2 (D := { D with nx := tz D }) h h1 Pv h0 hs hd
theorem evd_sum {r : List Int} (h : EvD K M te σ H (.list (r.map PyData.int))) : EvD K M (tCB (rSum K) (tCons te tNil)) σ H (.int r.sum) := fun H1 e Q q =>
  h H1 e _ fun v d H2 e2 dv pd => by
    subst pd
    cases dv with
    | lst h1 h2 h3 =>
      have ew := Dts.ints r h3
      subst ew
      exact ⟨_, r, rfl, sq_of h1, q _ _ H2 e2 (.int _) rfl⟩
theorem q_forR2b {ta : TA} {j : Nat} {lo hi : Int} (h : EvDA K M ta σ H [.int lo, .int hi]) (h1 : -100000 ≤ lo ∧ lo ≤ 100000 ∧ -100000 ≤ hi ∧ hi ≤ 100000) (Pv : Nat → L2.St → Hp → Prop) (Fin : L2.St → Hp → Prop) (h0 : ∀ H1, Ex H H1 → Pv 0 σ H1)
    (hs : ∀ (i : Nat) σ' H', i < (hi - lo).toNat → Pv i σ' H' → ∀ T : L2.St → Hp → Prop, (∀ σ2 H2, Fin σ2 H2 → T σ2 H2) → tu { D with nx := Pv (i + 1), ct := Pv (i + 1), bk := T } (σ'.set j (some (.int (lo + i)))) H')
    (hd : ∀ σ' H', Pv (hi - lo).toNat σ' H' → Fin σ' H') (hf : ∀ σ' H', Fin σ' H' → tz D σ' H') : tSeq (tFor (iRng2 ta) (gName j) tu) tz D σ H :=
  q_forR2 h h1 Pv h0 (fun i σ' H' hi p => hs i σ' H' hi p (tz D) hf) fun σ' H' p => hf σ' H' (hd σ' H' p)
/-- a comprehension over a list whose data are told by something -/
theorem evn_lcM {β : Type} {bs : List β} (enc F : β → PyData) (ok : Ok M H) (hl : EvD K M tl σ H (.list (bs.map enc))) (hz : bs.length < sizeLine)
    (hs : ∀ (M' : Addr → Prop) (b : β) (x : V) (H' : Hp), (∀ v d, Dt K M H v d → Dt K M' H' v d) → Ok M' H' → b ∈ bs → Ex H H' → Dt K M' H' x (enc b) →
      ∀ Qg : L2.St → Hp → Prop, (∀ σ2 H2, Ex H' H2 → Turned K M' σ vs tt te true (· = F b) σ2 H2 → Qg σ2 H2) → g x (wipe σ vs) H' Qg) :
    EvNew K M (tLc (iList K tl) g tt te vs) σ H (· = bs.map F) := fun H0 e Q q =>
  hl H0 e _ fun v d H1 e1 dv pd => by
    subst pd
    cases dv with
    | lst h1 h2 h3 =>
      rename_i a xs
      refine ⟨a, rfl, ⟨xs, sq_of h1⟩, fun D hD => ?_⟩
      have hw : Walk (Itl K a) bs.length (fun H => SqL K H a xs) (YAt xs) := by
        have := h3.length
        rw [List.length_map] at this
        rw [← this]
        exact walk_list
      refine lc_data (K := K) (σ := σ) (vs := vs) bs hw ((ok.ex (e.trans e1))) hD hz (fun _ => true) (fun b e => e = F b) (fun H e => sq_of (e _ _ h1)) (fun M' i b x H2 H' hm ok' hb e2 y Qg qg => ?_) (fun H2 es e2 dd pr => ?_)
      · obtain ⟨rfl, hx⟩ := y
        obtain ⟨d', hd', dx⟩ := h3.get hx
        rw [List.getElem?_map, hb] at hd'
        cases hd'
        exact hs M' b x _ (fun v d h => (hm v d (h.ex (e.trans e1))).ex e2) ok' (List.mem_of_getElem? hb) ((e.trans e1).trans e2) ((hm _ _ dx).ex e2) Qg qg
      · cases dd with
        | lst w1 w2 w3 => exact q D _ es H2 (fresh_back e1 hD) (e1.trans e2) w1 w3 (by rw [paired_map pr, filter_all])
theorem evn_lcMP {β : Type} {PB : List β → Prop} (enc F : β → PyData) (ok : Ok M H) (hl : EvP K M tl σ H (fun d => ∃ bs : List β, d = .list (bs.map enc) ∧ PB bs)) (hz : ∀ bs, PB bs → bs.length < sizeLine)
    (hs : ∀ (M' : Addr → Prop) (bs : List β) (b : β) (x : V) (H' : Hp), (∀ v d, Dt K M H v d → Dt K M' H' v d) → Ok M' H' → PB bs → b ∈ bs → Ex H H' → Dt K M' H' x (enc b) →
      ∀ Qg : L2.St → Hp → Prop, (∀ σ2 H2, Ex H' H2 → Turned K M' σ vs tt te true (· = F b) σ2 H2 → Qg σ2 H2) → g x (wipe σ vs) H' Qg) :
    EvNew K M (tLc (iList K tl) g tt te vs) σ H (fun ds => ∃ bs : List β, ds = bs.map F ∧ PB bs) := fun H0 e Q q =>
  hl H0 e _ fun v d H1 e1 dv pd => by
    obtain ⟨bs, rfl, pb⟩ := pd
    cases dv with
    | lst h1 h2 h3 =>
      rename_i a xs
      refine ⟨a, rfl, ⟨xs, sq_of h1⟩, fun D hD => ?_⟩
      have hw : Walk (Itl K a) bs.length (fun H => SqL K H a xs) (YAt xs) := by
        have := h3.length
        rw [List.length_map] at this
        rw [← this]
        exact walk_list
      refine lc_data (K := K) (σ := σ) (vs := vs) bs hw ((ok.ex (e.trans e1))) hD (hz bs pb) (fun _ => true) (fun b e => e = F b) (fun H e => sq_of (e _ _ h1)) (fun M' i b x H2 H' hm ok' hb e2 y Qg qg => ?_) (fun H2 es e2 dd pr => ?_)
      · obtain ⟨rfl, hx⟩ := y
        obtain ⟨d', hd', dx⟩ := h3.get hx
        rw [List.getElem?_map, hb] at hd'
        cases hd'
        exact hs M' bs b x _ (fun v d h => (hm v d (h.ex (e.trans e1))).ex e2) ok' pb (List.mem_of_getElem? hb) ((e.trans e1).trans e2) ((hm _ _ dx).ex e2) Qg qg
      · cases dd with
        | lst w1 w2 w3 => exact q D _ es H2 (fresh_back e1 hD) (e1.trans e2) w1 w3 ⟨bs, by rw [paired_map pr, filter_all], pb⟩
theorem EvNew.dataP {β : Type} {PB : List β → Prop} {enc : β → PyData} (ok : Ok M H) (h : EvNew K M te σ H (fun ds => ∃ bs : List β, ds = bs.map enc ∧ PB bs)) : EvP K M te σ H (fun d => ∃ bs : List β, d = .list (bs.map enc) ∧ PB bs) :=
  (h.data ok).mono fun d ⟨ds, h1, bs, h2, h3⟩ => ⟨bs, by rw [h1, h2], h3⟩
end
end TH
set_option maxRecDepth 100000
set_option maxHeartbeats 4000000
namespace TH
open PySem L2 Evl
abbrev sTabSize : Stmt := top 14
abbrev sIsTable : Stmt := top 15
abbrev sAreTabs : Stmt := top 16
abbrev sAreLiked : Stmt := top 17
/-! ### which tables, which liked moods -/
def listI (ns : List Int) : PyData := .list (ns.map PyData.int)
def tabB (m k : Nat) (tb : List Int) : Bool := decide ((tb.length : Int) = ((m ^ k : Nat) : Int)) && tb.all fun x => decide (0 ≤ x) && decide (x < (m : Int))
def tabsB (S : List Sg) (m : Nat) (tabs : List (List Int)) : Bool := decide ((tabs.length : Int) = (S.length : Int)) && tabs.zipIdx.all fun p => tabB m (ks S p.2) p.1
def likB (m : Int) : Int → List Int → Bool
  | _, [] => true
  | b, x :: r => (decide (b < x) && decide (x < m)) && likB m x r
section
variable {K : PySem.W.Frag} {M M' : Addr → Prop} {H H1 H' : Hp} {σ : L2.St} {te : TE} {tt : TT} {g : TG} {vs : List Nat}
theorem evn_lcE {β : Type} {bs : List β} (enc : β → PyData) (F : Nat → β → PyData) {ta : TA} (ok : Ok M H) (hl : EvDA K M ta σ H [.list (bs.map enc)]) (hz : bs.length < sizeLine)
    (hs : ∀ (M' : Addr → Prop) (i : Nat) (b : β) (x : V) (T : Addr) (H' : Hp), (∀ v d, Dt K M H v d → Dt K M' H' v d) → Ok M' H' → bs[i]? = some b → Ex H H' → Dt K M' H' x (enc b) → H' T = some (.tup [.int (i : Int), x]) →
      ∀ Qg : L2.St → Hp → Prop, (∀ σ2 H2, Ex H' H2 → Turned K M' σ vs tt te true (· = F i b) σ2 H2 → Qg σ2 H2) → g (.ref T) (wipe σ vs) H' Qg) :
    EvNew K M (tLc (iEnum K ta) g tt te vs) σ H (· = bs.zipIdx.map fun p => F p.2 p.1) := fun H0 e Q q =>
  hl H0 e _ fun us ds H1 e1 dv pd => by
    subst pd
    cases dv with
    | cons dv h0 =>
    cases h0
    cases dv with
    | lst h1 h2 h3 =>
      rename_i a xs
      refine ⟨a, xs, rfl, sq_of h1, fun D hD => ?_⟩
      have hw : Walk (Ite K a) bs.zipIdx.length (fun H => SqL K H a xs) (YPair (fun i => some (.int (i : Nat))) (fun i => xs[i]?)) := by
        have := h3.length
        rw [List.length_map] at this
        rw [List.length_zipIdx, ← this]
        exact walk_enum
      refine lc_data (K := K) (σ := σ) (vs := vs) bs.zipIdx hw ((ok.ex (e.trans e1))) hD (by rw [List.length_zipIdx]; exact hz) (fun _ => true) (fun p e => e = F p.2 p.1) (fun H e => sq_of (e _ _ h1)) (fun M' i p x H2 H' hm ok' hp e2 y Qg qg => ?_) (fun H2 es e2 dd pr => ?_)
      · obtain ⟨T, x0, y0, rfl, hT, rfl, hx, hy⟩ := y
        rw [List.getElem?_zipIdx] at hp
        cases hb : bs[i]? with
        | none =>
          rw [hb] at hp
          cases hp
        | some b =>
        rw [hb] at hp
        cases hp
        cases hx
        obtain ⟨d', hd', dx⟩ := h3.get hy
        rw [List.getElem?_map, hb] at hd'
        cases hd'
        have e3 : Ex H2 (upd H2 T (.tup [.int (i : Int), y0])) := Ex.new hT
        rw [Nat.zero_add] at qg
        exact hs M' i b y0 T _ (fun v d h => (hm v d (h.ex (e.trans e1))).ex (e2.trans e3)) (ok'.ex e3) hb (((e.trans e1).trans e2).trans e3) ((hm _ _ dx).ex (e2.trans e3)) upd_same Qg fun σ2 H3 e4 T4 => qg σ2 H3 (e3.trans e4) T4
      · cases dd with
        | lst w1 w2 w3 => exact q D _ es H2 (fresh_back e1 hD) (e1.trans e2) w1 w3 (by rw [paired_map pr, filter_all])
end
def spTabSize : Sp := fun vs H Q _ => ∃ m k : Nat, vs = [.int (m : Int), .int (k : Int)] ∧ m ≤ 6 ∧ k ≤ 2 ∧ ∀ H', Ex H H' → Q (.int ((m ^ k : Nat) : Int)) H'
def spIsTable (K : PySem.W.Frag) : Sp := fun vs H Q _ => ∃ (M : Addr → Prop) (v : V) (tb : List Int) (m k : Nat), vs = [v, .int (m : Int), .int (k : Int)] ∧ Ok M H ∧ Dt K M H v (listI tb) ∧ tb.length ≤ 100000 ∧ m ≤ 6 ∧ k ≤ 2 ∧ ∀ H', Ex H H' → Q (.bl (tabB m k tb)) H'
def spAreTabs (K : PySem.W.Frag) (CB : Addr) : Sp := fun vs H Q _ => ∃ (M Mb : Addr → Prop) (pb : Addr) (v : V) (S : List Sg) (tabs : List (List Int)) (m : Nat), vs = [.ref pb, .int (m : Int), v] ∧ BookAt CB Mb H pb S ∧ KidsOk S ∧ Ok M H ∧ Dt K M H v (.list (tabs.map listI)) ∧ tabs.length ≤ 100000 ∧ (∀ tb ∈ tabs, tb.length ≤ 100000) ∧ m ≤ 6 ∧
  ∀ H', Ex H H' → Q (.bl (tabsB S m tabs)) H'
def spAreLiked (K : PySem.W.Frag) : Sp := fun vs H Q _ => ∃ (M : Addr → Prop) (v : V) (ls : List Int) (m : Int), vs = [v, .int m] ∧ Dt K M H v (listI ls) ∧ ∀ H', Ex H H' → Q (.bl (likB m (-1) ls)) H'
theorem mpow {m k : Nat} (hm : m ≤ 6) (hk : k ≤ 2) : m ^ k ≤ 36 := by
  have h1 : m ^ k ≤ 6 ^ k := Nat.pow_le_pow_left hm k
  have h2 : (6 : Nat) ^ k ≤ 6 ^ 2 := Nat.pow_le_pow_right (by decide) hk
  omega
section
variable {P : Program} {w : World} {K : PySem.W.Frag} {mg : Str → Option Value} {base : Heap} {CB CR : Addr}
abbrev nTabSize : List Str := ["moods", "kids", "size", "_"]
theorem scTabSize : FnScope nTabSize ["moods", "kids"] (defScope sTabSize) := ⟨rfl, rfl, rfl, by decide +kernel, rfl, by decide +kernel, by decide +kernel⟩
theorem ok_tabsize {f : Addr} {fd : FuncData} (F : Fun K "table_size" "table_size" sTabSize f fd) (G : Glob mg) : FnOk P w K mg base CX0 1 f fd ["moods", "kids"] spTabSize := by
  refine F.ok scTabSize (fun vs H Q E h => ?_) (fun cdv A outer s0 H vs Q E hr h => ?_)
  · obtain ⟨m, k, rfl, _⟩ := h
    rfl
  · obtain ⟨m, k, rfl, hm, hk, q⟩ := h
    refine ⟨_, pss_cons (ps_set (i := 2) scTabSize.nd rfl (.inl rfl) pe_int)
      (pss_cons (ps_for PassesOwn.never rfl (pi_range1 rfl G.range (pa_cons (pv 1) pa_nil)) (pg_name (i := 3) scTabSize.nd rfl (.inl rfl)) (pss_one (ps_set (i := 2) scTabSize.nd rfl (.inl rfl) (pe_op op_mul (pv 2) (pv 0)))))
      (pss_one (ps_ret (pv 2)))), ?_⟩
    refine q_forR1 (n := (k : Int)) (ea_cons (ev_var rfl) ea_nil) (by omega) (fun i σ' H' => Ex H H' ∧ ∃ u, σ' = [some (.int (m : Int)), some (.int (k : Int)), some (.int ((m ^ i : Nat) : Int)), u])
      (fun H1 e1 => ⟨e1, none, rfl⟩) ?_ ?_
    · rintro i σ' H1 hi ⟨e, u, rfl⟩
      have hp := mpow hm (show i ≤ 2 by omega)
      refine s_asgP (K := K) (M := MF) (evd_mulM (evd_var (i := 2) rfl (.int _)) (evd_var (i := 0) rfl (.int _)) (by omega)) fun y d H2 e2 dy pd => ?_
      subst pd
      cases dy
      refine ⟨e.trans e2, some (.int (i : Int)), ?_⟩
      rw [Nat.pow_succ, Int.natCast_mul]
      rfl
    · rintro σ' H1 ⟨e, u, rfl⟩
      rw [Int.toNat_natCast]
      exact ⟨_, rfl, q H1 e⟩
abbrev nIsTable : List Str := ["table", "moods", "kids", "mood"]
theorem scIsTable : FnScope nIsTable ["table", "moods", "kids"] (defScope sIsTable) := ⟨rfl, rfl, rfl, by decide +kernel, rfl, by decide +kernel, by decide +kernel⟩
theorem ok_istable {f : Addr} {fd : FuncData} (F : Fun K "is_table" "is_table" sIsTable f fd) (G : GlobS mg) (B : OneF P w K mg base "table_size" 1 ["moods", "kids"] spTabSize) : FnOk P w K mg base CX0 2 f fd ["table", "moods", "kids"] (spIsTable K) := by
  obtain ⟨f1, d1, m1, k1, g1, b1⟩ := B
  refine F.ok scIsTable (fun vs H Q E h => ?_) (fun cdv A outer s0 H vs Q E hr h => ?_)
  · obtain ⟨M, v, tb, m, k, rfl, _⟩ := h
    rfl
  · obtain ⟨M, v, tb, m, k, rfl, ok, hv, hl, hm, hk, q⟩ := h
    refine ⟨_, pss_one (ps_ret (pe_and (pe_cmpR op_eq (pe_callB call_len_seq (by rfl) G.len PySem.boot_len (pa_cons (pv 0) pa_nil)) (pe_call g1 hr rfl m1 k1 b1 .nil pass0 (pa_cons (pv 1) (pa_cons (pv 2) pa_nil))) (nomark _))
      (pe_one (pe_callB (cr_all rfl) (by rfl) G.all (by decide +kernel) (pa_cons (pe_lc (own := [("mood", 3)]) (g := gName 3) (tt := tYes) rfl scIsTable.nd (pi_list (pv 0))
          (blkOk_by (N := nIsTable) (sc := defScope sIsTable) (by decide +kernel)) (fun _ _ _ _ _ => pg_name (i := 3) scIsTable.nd rfl (.inl rfl)) (fun _ _ _ _ _ => pts_nil)
          (fun _ _ _ _ _ => pe_chain op_le op_lt pe_int (pv 3) (pv 1))) pa_nil))))), ?_⟩
    refine s_retP (K := K) (M := M) (evd_andV (a := decide ((tb.length : Int) = ((m ^ k : Nat) : Int))) (evd_eqI ?_ ?_) fun _ => evd_all (bs := tb.map fun x => decide (0 ≤ x) && decide (x < (m : Int))) (eva_cons ?_ eva_nil)) fun x d H1 e1 dx pd => ?_
    · have h := evd_lenL (K := K) (M := M) (σ := start nIsTable [v, .int (m : Int), .int (k : Int)]) (ta := tCons (tVar 0) tNil) (H := H) (eva_cons (evd_var (i := 0) rfl hv) eva_nil)
      rw [List.length_map] at h
      exact h
    · exact fun H1 e Q q => ⟨_, rfl, _, rfl, m, k, rfl, hm, hk, fun H2 e2 => q _ _ H2 e2 (.int _) rfl⟩
    · refine ((evn_lcM (bs := tb) PyData.int (fun x => .bool (decide (0 ≤ x) && decide (x < (m : Int)))) ok (evd_var (i := 0) rfl hv) (Nat.lt_of_le_of_lt hl (by decide)) fun M' b x H' hM ok' hb e dx Qg qg => ?_).data ok).mono fun d hd => ?_
      · refine qg _ H' (Ex.refl _) ⟨rfl, evt_yes, fun _ => evd_chainI (g := fun i j => decide (i ≤ j)) (g' := fun i j => decide (i < j)) evd_int (evd_var (i := 3) rfl dx) (evd_var (i := 1) rfl (.int (m : Int)))⟩
      · obtain ⟨ds, rfl, rfl⟩ := hd
        rw [List.map_map]
        rfl
    · subst pd
      cases dx
      have := q H1 e1
      unfold tabB at this
      rw [List.all_map]
      exact this
abbrev nAreTabs : List Str := ["book", "moods", "tables", "sign", "table"]
theorem scAreTabs : FnScope nAreTabs ["book", "moods", "tables"] (defScope sAreTabs) := ⟨rfl, rfl, rfl, by decide +kernel, rfl, by decide +kernel, by decide +kernel⟩
theorem ok_aretabs {f : Addr} {fd : FuncData} (F : Fun K "are_tables" "are_tables" sAreTabs f fd) (G : GlobS mg) (BK : BookK P w K mg base CB) (B : OneF P w K mg base "is_table" 2 ["table", "moods", "kids"] (spIsTable K)) : FnOk P w K mg base CX0 3 f fd ["book", "moods", "tables"] (spAreTabs K CB) := by
  obtain ⟨f1, d1, m1, k1, g1, b1⟩ := B
  obtain ⟨T, ⟨f2, d2, m2, g2, b2⟩, ⟨f3, d3, m3, g3, b3⟩⟩ := BK
  refine F.ok scAreTabs (fun vs H Q E h => ?_) (fun cdv A outer s0 H vs Q E hr h => ?_)
  · obtain ⟨M, Mb, pb, v, S, tabs, m, rfl, _⟩ := h
    rfl
  · obtain ⟨M, Mb, pb, v, S, tabs, m, rfl, hB, hK, ok, hv, hl, hls, hm, q⟩ := h
    have hr1 : Room 1 _ := hr.mono (show 1 ≤ 2 by decide)
    refine ⟨_, pss_cons (ps_if (pt_cmpR op_ne (pe_callB call_len_seq (by rfl) G.len PySem.boot_len (pa_cons (pv 2) pa_nil)) (pe_meth0 (pv 0) T.cl m2 g2 hr1 b2 .nil pass0) (nomark _)) (pss_one (ps_ret pe_bl)) pss_nil)
      (pss_one (ps_ret (pe_callB (cr_all rfl) (by rfl) G.all (by decide +kernel) (pa_cons (pe_lc (own := [("sign", 3), ("table", 4)]) (tt := tYes) rfl scAreTabs.nd (pi_enum (by rfl) G.enumerate (pa_cons (pv 2) pa_nil))
          (blkOk_by (N := nAreTabs) (sc := defScope sAreTabs) (by decide +kernel)) (fun _ _ _ _ _ => pg_tupK (K := K) (n := 2) rfl rfl (pgs_cons (pg_name (i := 3) scAreTabs.nd rfl (.inl rfl)) (pgs_cons (pg_name (i := 4) scAreTabs.nd rfl (.inl rfl)) pgs_nil))) (fun _ _ _ _ _ => pts_nil)
          (fun _ _ _ _ _ => pe_call g1 hr rfl m1 k1 b1 .nil pass0 (pa_cons (pv 4) (pa_cons (pv 1) (pa_cons (pe_meth (pv 0) T.cl m3 g3 hr1 b3 .nil pass0 (pa_cons (pv 3) pa_nil)) pa_nil))))) pa_nil)))), ?_⟩
    have elen : EvD K M (tCB (fun xs H Q => ∃ p ys, xs = [.ref p] ∧ (SqL K H p ys ∨ SqT K H p ys) ∧ Q (.int ys.length) H) (tCons (tVar 2) tNil)) (start nAreTabs [.ref pb, .int (m : Int), v]) H (.int (tabs.length : Int)) := by
      have h := evd_lenL (K := K) (M := M) (σ := start nAreTabs [.ref pb, .int (m : Int), v]) (ta := tCons (tVar 2) tNil) (H := H) (eva_cons (evd_var (i := 2) rfl hv) eva_nil)
      rw [List.length_map] at h
      exact h
    refine q_when (evt_test (K := K) (M := M) (evd_neI elen (evd_many (i := 0) rfl hB))) (fun hb H1 e1 => ?_) (fun hb H1 e1 => ?_)
    · have := q H1 e1
      unfold tabsB at this
      rw [Bool.not_eq_true'] at hb
      rw [hb] at this
      exact this
    rw [Bool.not_eq_false'] at hb
    have hlS : tabs.length = S.length := by have := of_decide_eq_true hb; omega
    have ok1 := ok.ex e1
    have hB1 := hB.ex e1
    refine s_retP (K := K) (M := M) (evd_all (bs := tabs.zipIdx.map fun p => tabB m (ks S p.2) p.1) (eva_cons ?_ eva_nil)) fun x d H2 e2 dx pd => ?_
    · refine ((evn_lcE (bs := tabs) listI (fun i tb => .bool (tabB m (ks S i) tb)) ok1 (eva_cons (evd_var (i := 2) rfl (hv.ex e1)) eva_nil) (Nat.lt_of_le_of_lt hl (by decide)) fun M' i tb x T H' hM ok' hb e dx hT Qg qg => ?_).data ok1).mono fun d hd => ?_
      · have hi : i < S.length := by rw [← hlS]; exact (List.getElem?_eq_some_iff.mp hb).1
        have hSi : S[i]? = some (S[i]'hi) := List.getElem?_eq_getElem _
        refine ⟨_, _, rfl, SqT.of hT, rfl, _, _, rfl, _, _, rfl, rfl, qg _ H' (Ex.refl _) ⟨rfl, evt_yes, fun _ => ?_⟩⟩
        intro H2 e2 Q q2
        refine ⟨_, rfl, _, rfl, evd_kids (K := K) (M' := MF) (S := S) (j := i) (i := 0) rfl (hB1.ex e) (evd_var (i := 3) rfl (.int (i : Int))) rfl hSi H2 e2 _ fun z dz H3 e3 dvz pz => ?_⟩
        subst pz
        cases dvz
        have hk := hK _ (List.mem_of_getElem? hSi)
        have ekn : ((S[i]'hi).2 : Int) = ((ks S i : Nat) : Int) := by rw [ks_of hSi, Int.toNat_of_nonneg hk.1]
        rw [ekn]
        exact ⟨M', x, tb, m, ks S i, rfl, ok'.ex (e2.trans e3), dx.ex (e2.trans e3), hls tb (List.mem_of_getElem? hb), hm, ks_le hK i, fun H4 e4 => q2 _ _ H4 (e3.trans e4) (.bl _) rfl⟩
      · obtain ⟨ds, rfl, rfl⟩ := hd
        rw [List.map_map]
        rfl
    · subst pd
      cases dx
      have := q H2 (e1.trans e2)
      unfold tabsB at this
      rw [hb] at this
      rw [List.all_map]
      exact this
abbrev nAreLiked : List Str := ["liked", "moods", "before", "mood"]
theorem scAreLiked : FnScope nAreLiked ["liked", "moods"] (defScope sAreLiked) := ⟨rfl, rfl, rfl, by decide +kernel, rfl, by decide +kernel, by decide +kernel⟩
theorem ok_areliked {f : Addr} {fd : FuncData} (F : Fun K "are_liked" "are_liked" sAreLiked f fd) : FnOk P w K mg base CX0 1 f fd ["liked", "moods"] (spAreLiked K) := by
  refine F.ok scAreLiked (fun vs H Q E h => ?_) (fun cdv A outer s0 H vs Q E hr h => ?_)
  · obtain ⟨M, v, ls, m, rfl, _⟩ := h
    rfl
  · obtain ⟨M, v, ls, m, rfl, hv, q⟩ := h
    refine ⟨_, pss_cons (ps_set (i := 2) scAreLiked.nd rfl (.inl rfl) (pe_un un_neg pe_int))
      (pss_cons (ps_for PassesOwn.never rfl (pi_list (pv 0)) (pg_name (i := 3) scAreLiked.nd rfl (.inl rfl))
        (pss_cons (ps_if (pt_not (pt_chain op_lt op_lt (pv 2) (pv 3) (pv 1))) (pss_one (ps_ret pe_bl)) pss_nil)
        (pss_one (ps_set (i := 2) scAreLiked.nd rfl (.inl rfl) (pv 3)))))
      (pss_one (ps_ret pe_bl))), ?_⟩
    have hv0 := hv
    unfold listI at hv
    cases hv with
    | lst h1 h2 h3 =>
    rename_i a xs
    have ew := h3.ints
    subst ew
    refine ⟨1, rfl, ?_⟩
    refine q_forL (K := K) (a := a) (xs := ls.map V.int) (ev_var (i := 0) rfl) (sq_of h1)
      (fun i σ' H' => Ex H H' ∧ ∃ (b : Int) (u : Option V), σ' = [some (.ref a), some (.int m), some (.int b), u] ∧ likB m (-1) ls = likB m b (ls.drop i))
      (fun H1 e1 => ⟨e1, -1, none, rfl, rfl⟩) (fun i σ' H' _ z => sq_of (z.1 _ _ h1)) ?_ ?_
    · rintro i x σ' H1 hx ⟨e, b, u, rfl, hd⟩
      rw [List.getElem?_map] at hx
      cases hz : ls[i]? with
      | none =>
        rw [hz] at hx
        cases hx
      | some z =>
      rw [hz] at hx
      cases hx
      obtain ⟨hlt, ez⟩ := List.getElem?_eq_some_iff.mp hz
      have ed : ls.drop i = z :: ls.drop (i + 1) := by rw [List.drop_eq_getElem_cons hlt, ez]
      rw [ed, likB] at hd
      refine q_when (evt_not (evt_test (K := K) (M := MF) (evd_chainI (g := fun i j => decide (i < j)) (g' := fun i j => decide (i < j)) (evd_var (i := 2) rfl (.int b)) (evd_var (i := 3) rfl (.int z)) (evd_var (i := 1) rfl (.int m))))) (fun hb H2 e2 => ?_) (fun hb H2 e2 => ?_)
      · rw [Bool.not_eq_true'] at hb
        rw [hb] at hd
        have := q H2 (e.trans e2)
        rw [hd] at this
        exact this
      · rw [Bool.not_eq_false'] at hb
        rw [hb, Bool.true_and] at hd
        exact ⟨_, rfl, e.trans e2, z, _, rfl, hd⟩
    · rintro σ' H1 ⟨e, b, u, rfl, hd⟩
      rw [List.length_map, List.drop_length, likB] at hd
      have := q H1 e
      rw [hd] at this
      exact this
end
end TH
set_option maxRecDepth 100000
set_option maxHeartbeats 4000000
namespace TH
open PySem L2 Evl LamX
/-! ### what stays where a lambda is made -/
section
variable {K : PySem.W.Frag} {M : Addr → Prop} {H H1 H' : Hp} {C CN p : Addr} {S T : List Sg} {σ : L2.St} {ta : TE} {E : XK} {Q : VK}
theorem extn_sqt {a : Addr} {xs : List V} (e : ExtN H H') (h : SqT K H a xs) : SqT K H' a xs := by
  rcases h with (h | ⟨u, h⟩) | h
  · exact .inl (.inl (e _ _ h fun ps z => by cases z))
  · exact .inl (.inr ⟨u, e _ _ h fun ps z => by cases z⟩)
  · exact .inr h
theorem extn_sql {a : Addr} {xs : List V} (e : ExtN H H') (h : SqL K H a xs) : SqL K H' a xs := by
  rcases h with (h | ⟨u, h⟩) | h
  · exact .inl (.inl (e _ _ h fun ps z => by cases z))
  · exact .inl (.inr ⟨u, e _ _ h fun ps z => by cases z⟩)
  · exact .inr h
theorem dt_extn {v : V} {d : PyData} (h : Dt K M H v d) (e : ExtN H H') : Dt K M H' v d :=
  Dt.move (fun a xs h n => ⟨e _ _ h (fun ps z => by cases z), n⟩) (fun a xs h => e _ _ h (fun ps z => by cases z)) d v h
theorem book_extn (h : BookAt C M H p S) (e : ExtN H H') : BookAt C M H' p S := by
  obtain ⟨dx, l1, l2, h1, h2, h3, h4, h5⟩ := h
  exact ⟨dx, l1, l2, e _ _ h1 (fun ps z => by cases z), e _ _ h2 (fun ps z => by cases z), h3, e _ _ h4 (fun ps z => by cases z), h5⟩
theorem box_extn {b : Addr} (h : H b = some (Box b)) (e : ExtN H H') : H' b = some (Box b) := e _ _ h fun ps z => by
  unfold Box at z
  cases z
theorem ok_extn (h : Ok M H) (hm : ∀ l, M l → ∃ xs, H l = some (.lst xs)) (e : ExtN H H') : Ok M H' := fun l m => by
  obtain ⟨xs, hx⟩ := hm l m
  rw [e _ _ hx (fun ps z => by cases z)]
  simp
/-- Book(..) of a list that is a book, of one that is none -/
theorem made_ex {x dx : Addr} (h1 : H x = none) (h2 : H dx = none) (hne : dx ≠ x) : Ex H (upd (upd H dx (.own x)) x (.ins C dx [])) :=
  (Ex.new h2).trans (Ex.new (by rw [upd_ne hne.symm]; exact h1))
theorem make_book (ok : Ok M H) (h : EvD K M ta σ H (.list (S.map sgD))) (g : validB S = true) (hl : S.length ≤ 100) (hz : ∀ q ∈ S, q.1.length ≤ 100000)
    (q : ∀ x H', Ex H H' → BookAt C M H' x S → Q (.ref x) H') : tMake C (spInit K C CN) [] E (tCons ta tNil) σ H Q := by
  refine h H (Ex.refl H) _ fun v d H1 e1 dv pd x dx hx hdx hne => ?_
  subst pd
  have e2 : Ex H1 (upd (upd H1 dx (.own x)) x (.ins C dx [])) := made_ex hx hdx hne
  refine ⟨M, x, dx, v, S, ok.ex (e1.trans e2), rfl, upd_same, dv.ex e2, hl, hz, fun _ H' hB hk => ⟨rfl, q x H' (e1.trans fun b o hb => ?_) hB⟩, fun g' => by rw [g] at g'; cases g'⟩
  exact hk b o (e2 b o hb) (ne_of_none hb hx)
theorem make_none (ok : Ok M H) (h : EvD K M ta σ H (.list (S.map sgD))) (g : validB S = false) (hl : S.length ≤ 100) (hz : ∀ q ∈ S, q.1.length ≤ 100000)
    (q : ∀ H', Ex H H' → E (.ref CN) none H') : tMake C (spInit K C CN) [] E (tCons ta tNil) σ H Q := by
  refine h H (Ex.refl H) _ fun v d H1 e1 dv pd x dx hx hdx hne => ?_
  subst pd
  have e2 : Ex H1 (upd (upd H1 dx (.own x)) x (.ins C dx [])) := made_ex hx hdx hne
  exact ⟨M, x, dx, v, S, ok.ex (e1.trans e2), rfl, upd_same, dv.ex e2, hl, hz, (fun g' => by rw [g] at g'; cases g'), fun _ H' e3 => q H' ((e1.trans e2).trans e3)⟩
/-! ### two lists that are the same -/
theorem lay_sgs : ∀ S : List Sg, (∀ q ∈ S, PyData.strOk q.1 = true) → PyData.canLayAll0 (S.map sgD) = true
  | [], _ => rfl
  | q :: S, h => by
    rw [List.map_cons, PyData.canLayAll0, lay_sgs S fun r hr => h r (List.mem_cons_of_mem _ hr)]
    have : (sgD q).canLay0 = true := by
      unfold sgD
      rw [PyData.canLay0, PyData.canLayAll0, PyData.canLay0, h q List.mem_cons_self, PyData.canLayAll0, PyData.canLay0, PyData.canLayAll0]
      rfl
    rw [this]
    rfl
theorem depth_sgs : ∀ S : List Sg, PyData.depthAll (S.map sgD) ≤ 1
  | [] => by show 0 ≤ 1; decide
  | q :: S => by
    rw [List.map_cons, PyData.depthAll]
    have h1 := depth_sgs S
    have h2 : (sgD q).depth = 1 := by
      unfold sgD
      rw [PyData.depth, PyData.depthAll, PyData.depth, PyData.depthAll, PyData.depth, PyData.depthAll]
      rfl
    rw [h2]
    exact Nat.max_le.mpr ⟨Nat.le_refl _, h1⟩
theorem shaped_sgs (h : ∀ q ∈ S, PyData.strOk q.1 = true) : SeqAt.shaped (.list (S.map sgD)) = true := by
  unfold SeqAt.shaped
  rw [PyData.canLay0, lay_sgs S h, PyData.depth, decide_eq_true (by have := depth_sgs S; omega)]
  rfl
theorem eqv_sgs (h : ∀ q ∈ S, PyData.strOk q.1 = true) : PyData.eqv (.list (S.map sgD)) (.list (S.map sgD)) = true :=
  SeqAt.eqv_refl _ (by rw [PyData.canLay0]; exact lay_sgs S h)
theorem like_same (S : List Sg) : (decide (S.map (·.1) = S.map (·.1)) && decide (S.map (·.2) = S.map (·.2))) = true := by simp
theorem like_other {S T : List Sg} (h : T ≠ S) : (decide (S.map (·.1) = T.map (·.1)) && decide (S.map (·.2) = T.map (·.2))) = false ∧ (decide (T.map (·.1) = S.map (·.1)) && decide (T.map (·.2) = S.map (·.2))) = false := by
  have key : ¬ (S.map (·.1) = T.map (·.1) ∧ S.map (·.2) = T.map (·.2)) := by
    rintro ⟨h1, h2⟩
    apply h
    have hl : S.length = T.length := by
      have := congrArg List.length h1
      rwa [List.length_map, List.length_map] at this
    refine List.ext_getElem hl.symm fun i hi hi' => ?_
    have a1 : (T.map (·.1))[i]? = (S.map (·.1))[i]? := by rw [h1]
    have a2 : (T.map (·.2))[i]? = (S.map (·.2))[i]? := by rw [h2]
    rw [List.getElem?_map, List.getElem?_map, List.getElem?_eq_getElem hi, List.getElem?_eq_getElem hi'] at a1 a2
    injection a1 with a1
    injection a2 with a2
    exact Prod.ext a1 a2
  constructor
  · rw [← Bool.not_eq_true, Bool.and_eq_true, decide_eq_true_eq, decide_eq_true_eq]
    exact key
  · rw [← Bool.not_eq_true, Bool.and_eq_true, decide_eq_true_eq, decide_eq_true_eq]
    exact fun z => key ⟨z.1.symm, z.2.symm⟩
theorem evd_listOf {ta : TA} {ds : List PyData} (ok : Ok M H) (h : EvDA K M ta σ H [.list ds]) : EvD K M (tCB (fun xs H Q => ∃ p ys, xs = [.ref p] ∧ (SqL K H p ys ∨ SqT K H p ys) ∧ ∀ l, H l = none → Q (.ref l) (upd H l (.lst ys))) ta) σ H (.list ds) :=
  evp_cb h fun vs es H1 e dv pd Q q => by
    subst pd
    cases dv with
    | cons h1 h2 =>
      cases h2
      cases h1 with
      | lst k1 k2 k3 => exact ⟨_, _, rfl, .inl (sq_of k1), fun l hl => q _ _ _ (Ex.new hl) (.lst upd_same ((ok.ex e).new hl) (k3.ex (Ex.new hl))) rfl⟩
theorem q_asgR {te : TE} {i : Nat} {tz : TS} {D : Ends} (h : te σ H fun v H1 => tz D (σ.set i (some v)) H1) : tSeq (tAsg te (gName i)) tz D σ H := h
/-- the book's lists are not the list of signs -/
theorem book_apart {h : Addr} {xs : List V} {y : Addr} (hB : BookAt C MF H p S) (hh : H h = some (.lst xs)) (hy : xs[0]? = some (.ref y)) : BookAt C (· = h) H p S := by
  obtain ⟨dx, l1, l2, h1, h2, _, h4, _⟩ := hB
  refine ⟨dx, l1, l2, h1, h2, fun z => ?_, h4, fun z => ?_⟩
  · rw [z, hh] at h2
    injection h2 with h2
    injection h2 with h2
    rw [h2, List.getElem?_map] at hy
    cases hS : S[0]? with
    | none =>
      rw [hS] at hy
      cases hy
    | some q =>
      rw [hS] at hy
      cases hy
  · rw [z, hh] at h4
    injection h4 with h4
    injection h4 with h4
    rw [h4, List.getElem?_map] at hy
    cases hS : S[0]? with
    | none =>
      rw [hS] at hy
      cases hy
    | some q =>
      rw [hS] at hy
      cases hy
end
end TH
set_option maxRecDepth 100000
set_option maxHeartbeats 4000000
namespace TH
open PySem L2 Evl
/-- data that are new since H -/
def NewD (K : PySem.W.Frag) (H H' : Hp) (x : V) (d : PyData) : Prop := ∀ M', Ok M' H → Dt K M' H' x d
theorem NewD.ex {K : PySem.W.Frag} {H H' H2 : Hp} {x : V} {d : PyData} (h : NewD K H H' x d) (e : Ex H' H2) : NewD K H H2 x d := fun M' ok => (h M' ok).ex e
def spLReader (K : PySem.W.Frag) : Sp := fun vs H Q _ => ∃ (b : Addr) (v : V) (S : List Sg) (most : Nat), vs = [.ref b, v, .int (most : Int)] ∧ H b = some (Box b) ∧ Dt K MF H v (.list (S.map sgD)) ∧ KidsOk S ∧ S.length ≤ 100 ∧ 1 ≤ most ∧ most ≤ 6 ∧
  ∀ x R H', Ex H H' → GoodR S R → R.moods ≤ most → NewD K H H' x (plD R) → Q x H'
/-- the mood to which a sign leads from a tuple of moods, from a list of moods -/
def spLLedT (K : PySem.W.Frag) : Sp := fun vs H Q _ => ∃ (M : Addr → Prop) (v z : V) (S : List Sg) (R : Pl) (s : Nat) (k : List Nat), vs = [v, .int (s : Int), z] ∧ Dt K M H v (plD R) ∧ (∃ a, z = .ref a ∧ SqT K H a (nums k)) ∧ GoodR S R ∧ KidsOk S ∧ s < S.length ∧ k.length = ks S s ∧ (∀ x ∈ k, x < R.moods) ∧
  ∀ H', Ex H H' → Q (.int (ledN R s k : Int)) H'
def spLLedL (K : PySem.W.Frag) : Sp := fun vs H Q _ => ∃ (M : Addr → Prop) (v z : V) (S : List Sg) (R : Pl) (s : Nat) (k : List Nat), vs = [v, .int (s : Int), z] ∧ Dt K M H v (plD R) ∧ (∃ a, z = .ref a ∧ SqL K H a (nums k)) ∧ GoodR S R ∧ KidsOk S ∧ s < S.length ∧ k.length = ks S s ∧ (∀ x ∈ k, x < R.moods) ∧
  ∀ H', Ex H H' → Q (.int (ledN R s k : Int)) H'
section
variable {K : PySem.W.Frag} {M M' : Addr → Prop} {H H1 H' : Hp} {σ : L2.St} {ta tb te tl : TE} {E : XK}
theorem evd_mulN {i j : Int} (ha : EvD K M ta σ H (.int i)) (hb : EvD K M tb σ H (.int j)) (h : -(2 ^ 64) < i ∧ i < 2 ^ 64) : EvD K M (tOp (rI CMul fun i j => .int (i * j)) ta tb) σ H (.int (i * j)) :=
  evp_I ha hb fun a b pa pb => ⟨i, j, pa, pb, .inl h, _, rfl, fun _ => .int _⟩
theorem evp_take1 {b : Addr} {n : Int} {z : Int} (hb : Ev tb σ H (.ref b)) (hx : H b = some (Box b)) (n0 : 0 < n) (n1 : n.natAbs < 2 ^ 200) :
    EvP K M (tOp rEq (tCall spTake [] E (tCons tb (tCons (tC (.int n)) tNil))) (tC (.int z))) σ H (fun d => ∃ c, d = .bool c ∧ True) :=
  evp_op (evp_take hb hx evd_int n0 n1) (evd_int (i := z)) fun x y a b H1 e dx dy px py Q q => by
    obtain ⟨k, rfl, _, _⟩ := px
    subst py
    cases dx
    cases dy
    exact ⟨rfl, q _ _ H1 (Ex.refl _) (.bl _) ⟨_, rfl, trivial⟩⟩
end
theorem pow_at {m : Nat} {k : Nat} (h : k ≤ 2) : [PyData.int 1, .int (m : Int), .int ((m : Int) * (m : Int))][k]? = some (.int ((m ^ k : Nat) : Int)) := by
  have : k = 0 ∨ k = 1 ∨ k = 2 := by omega
  rcases this with rfl | rfl | rfl
  · rw [Nat.pow_zero]
    rfl
  · rw [Nat.pow_one]
    rfl
  · rw [Nat.pow_two, Int.natCast_mul]
    rfl
section
variable {P : Program} {w : World} {K : PySem.W.Frag} {mg : Str → Option Value} {base : Heap}
abbrev nLReader : List Str := ["_law_box_here", "_law_signs_here", "_law_most", "_law_moods", "_law_tables", "_law_name", "_law_kids", "_law_turn", "_law_mood_here"]
theorem scLReader : FnScope nLReader ["_law_box_here", "_law_signs_here", "_law_most"] (defScope sLReader) := ⟨rfl, rfl, rfl, by decide +kernel, rfl, by decide +kernel, by decide +kernel⟩
theorem ok_lreader {f : Addr} {fd : FuncData} (F : Fun K "_law_reader" "_law_reader" sLReader f fd) (G : Glob mg) (GT : OneF P w K mg base "_law_take" 2 ["_law_box_here", "_law_count"] spTake) :
    FnOk P w K mg base CX0 3 f fd ["_law_box_here", "_law_signs_here", "_law_most"] (spLReader K) := by
  obtain ⟨fT, dT, mT, kT, gT, bT⟩ := GT
  refine F.ok scLReader (fun vs H Q E h => ?_) (fun cdv A outer s0 H vs Q E hr h => ?_)
  · obtain ⟨b, v, S, most, rfl, _⟩ := h
    rfl
  · obtain ⟨b, v, S, most, rfl, hb, hv, hK, hS100, m1, m6, q⟩ := h
    refine ⟨_, pss_cons (ps_set (i := 3) scLReader.nd rfl (.inr rfl) (pe_op op_add pe_int (pe_call gT hr rfl mT kT bT .nil pass0 (pa_cons (pv 0) (pa_cons (pv 2) pa_nil)))))
      (pss_cons (ps_set (i := 4) scLReader.nd rfl (.inl rfl) (pe_lst pa_nil))
      (pss_cons (ps_for PassesOwn.never rfl (pi_list (pv 1)) (pg_tup rfl (pgs_cons (pg_name (i := 5) scLReader.nd rfl (.inl rfl)) (pgs_cons (pg_name (i := 6) scLReader.nd rfl (.inl rfl)) pgs_nil)))
        (pss_one (ps_expr (pe_bm PySem.F.plainAttrs_list PySem.F.slot_list_append PySem.F.type_list_append mt_append (pv 4) (pa_cons (pe_lc (own := [("_law_turn", 7)]) (g := gName 7) (tt := tYes) rfl scLReader.nd
            (pi_range1 rfl G.range (pa_cons (pe_ix ix_list (pe_lst (pa_cons pe_int (pa_cons (pv 3) (pa_cons (pe_op op_mul (pv 3) (pv 3)) pa_nil)))) (pv 6) (fun _ _ => rfl)) pa_nil))
            (blkOk_by (N := nLReader) (sc := defScope sLReader) (by decide +kernel)) (fun _ _ _ _ _ => pg_name (i := 7) scLReader.nd rfl (.inl rfl)) (fun _ _ _ _ _ => pts_nil)
            (fun _ _ _ _ _ => pe_call gT hr rfl mT kT bT .nil pass0 (pa_cons (pv 0) (pa_cons (pv 3) pa_nil)))) pa_nil)))))
      (pss_one (ps_ret (pe_tup (pa_cons (pv 3) (pa_cons (pv 4) (pa_cons (pe_lc (own := [("_law_mood_here", 8)]) (g := gName 8) rfl scLReader.nd (pi_range1 rfl G.range (pa_cons (pv 3) pa_nil))
            (blkOk_by (N := nLReader) (sc := defScope sLReader) (by decide +kernel)) (fun _ _ _ _ _ => pg_name (i := 8) scLReader.nd rfl (.inl rfl))
            (fun _ _ _ _ _ => pts_one (pt_cmpR op_eq (pe_call gT hr rfl mT kT bT .nil pass0 (pa_cons (pv 0) (pa_cons pe_int pa_nil))) pe_int (nomark _))) (fun _ _ _ _ _ => pv 8)) pa_nil)))))))), ?_⟩
    have hv0 := hv
    cases hv with
    | lst s1 s2 s3 =>
    rename_i a xs
    have hxl : xs.length = S.length := by rw [s3.length, List.length_map]
    refine q_asgP (K := K) (M := MF) (P := fun d => ∃ m : Nat, d = .int (m : Int) ∧ 1 ≤ m ∧ m ≤ most) (evp_I0 (PB := fun d => ∃ k : Int, d = .int k ∧ 0 ≤ k ∧ k < (most : Int)) (evd_int (i := 1)) (evp_take (n := (most : Int)) (ev_var (i := 0) rfl) hb (evd_var (i := 2) rfl (.int _)) (by omega) (Nat.lt_of_le_of_lt (show ((most : Nat) : Int).natAbs ≤ 6 by omega) (by decide))) fun a b pa pb => ?_) fun vm dm H1 e1 dvm pm => ?_
    · obtain ⟨k, rfl, k0, k1⟩ := pb
      subst pa
      refine ⟨1, k, rfl, rfl, .int (1 + k), ⟨(1 + k).toNat, by rw [Int.toNat_of_nonneg (by omega)], by omega, by omega⟩, fun _ => .int _⟩
    obtain ⟨m, rfl, h1, h2⟩ := pm
    cases dvm
    have mp : ∀ k, k ≤ 2 → m ^ k ≤ 36 := fun k hk => by
      have : m ^ k ≤ 6 ^ k := Nat.pow_le_pow_left (by omega) k
      have : (6 : Nat) ^ k ≤ 6 ^ 2 := Nat.pow_le_pow_right (by decide) hk
      omega
    refine ⟨by decide, fun lt hlt => ?_⟩
    have hltH : H lt = none := fresh_back e1 hlt
    have e2 : Ex H (upd H1 lt (.lst [])) := e1.trans (Ex.new hlt)
    have hl2 : (upd H1 lt (.lst [])) lt = some (.lst []) := upd_same
    generalize upd H1 lt (.lst []) = H2 at e2 hl2
    refine q_forL (K := K) (a := a) (xs := xs) (ev_var (i := 1) rfl) (sq_of (e2 _ _ s1))
      (fun j σ' H' => Ex H H' ∧ ∃ u5 u6 refs tabs, σ' = [some (.ref b), some (.ref a), some (.int (most : Int)), some (.int (m : Int)), some (.ref lt), u5, u6, none, none] ∧ H' lt = some (.lst refs) ∧ (∀ M', Ok M' H → Dts K (more M' lt) H' refs (tabs.map intsD)) ∧ tabs.length = j ∧ (∀ (s : Nat) (tb : List Nat), tabs[s]? = some tb → tb.length = m ^ ks S s ∧ ∀ x ∈ tb, x < m))
      (fun H3 e3 => ⟨e2.trans e3, none, none, [], [], rfl, e3 _ _ hl2, fun _ _ => .nil, rfl, fun s tb h => by cases h⟩) (fun j σ' H' _ h => sq_of (h.1 _ _ s1)) ?_ ?_
    · rintro j x σ' H3 hx ⟨e3, u5, u6, refs, tabs, rfl, hl3, dt3, tl, tok⟩
      obtain ⟨d, hd, dx⟩ := s3.get hx
      rw [List.getElem?_map] at hd
      cases hSj : S[j]? with
      | none =>
        rw [hSj] at hd
        cases hd
      | some r =>
      rw [hSj] at hd
      cases hd
      have hj6 : j < S.length := (List.getElem?_eq_some_iff.mp hSj).1
      cases dx.ex e3 with
      | tup t1 t2 =>
      cases t2 with
      | cons r1 t2 =>
      cases r1
      cases t2 with
      | cons r2 t2 =>
      cases r2
      cases t2
      have hk := hK r (List.mem_of_getElem? hSj)
      have hk2 := ks_le hK j
      refine ⟨_, _, rfl, SqT.of t1, rfl, _, _, rfl, _, _, rfl, rfl, ?_⟩
      refine ⟨_, rfl, .inl ⟨rfl, _, SqL.of hl3⟩, evn_lcRI (K := K) (M := MF) (n := m ^ ks S j) (fun i es => ∃ tb : List Nat, es = (ofN tb).map PyData.int ∧ tb.length = i ∧ ∀ x ∈ tb, x < m) okF
        (eva_cons (evd_ixL (j := ks S j) (evd_lst okF (eva_cons evd_int (eva_cons (evd_var (i := 3) rfl (.int (m : Int))) (eva_cons (evd_mulN (evd_var (i := 3) rfl (.int (m : Int))) (evd_var (i := 3) rfl (.int (m : Int))) (by omega)) eva_nil))) (by show 3 ≤ sizeLine; decide)) (evd_var (i := 6) rfl (.int _)) (by rw [ks_of hSj]; omega) (pow_at hk2)) eva_nil)
        (Nat.le_trans (mp _ hk2) (by decide)) ⟨[], rfl, rfl, fun x h => nomatch h⟩ (fun M' i es H' hm ok' hi hI e Qg qg => ?_) H3 (Ex.refl _) _ fun c ys ds H4 hc e4 hc4 dys pI => ?_⟩
      · obtain ⟨tb, rfl, hl, hlt⟩ := hI
        refine qg _ H' (Ex.refl _) ⟨rfl, fun H5 e5 Q q => q true H5 (Ex.refl _) (fun _ => ?_) (fun h => nomatch h)⟩
        refine (evp_take (n := (m : Int)) (ev_var (i := 0) rfl) (((e3.trans e).trans e5) _ _ hb) (evd_var (i := 3) rfl (.int _)) (by omega) (Nat.lt_of_le_of_lt (show ((m : Nat) : Int).natAbs ≤ 6 by omega) (by decide))).mono fun d ⟨k, h1, k0, k1⟩ => ?_
        refine ⟨tb ++ [k.toNat], ?_, by rw [List.length_append, hl]; rfl, fun x hx => ?_⟩
        · unfold ofN
          rw [List.map_append, List.map_append, h1]
          show _ = _ ++ [PyData.int (k.toNat : Int)]
          rw [Int.toNat_of_nonneg k0]
        · rcases List.mem_append.mp hx with hx | hx
          · exact hlt x hx
          · rw [List.mem_singleton.mp hx]
            omega
      · obtain ⟨tb, rfl, hl, hltm⟩ := pI
        have hl4 := e4 _ _ hl3
        have hcl : c ≠ lt := (ne_of_none hl3 hc).symm
        have hcH : H c = none := fresh_back e3 hc
        have hrl : refs.length = j := by
          have := (dt3 MF (fun l h => h.elim)).length
          rw [this, List.length_map, tl]
        refine ⟨lt, refs, .ref c, rfl, rfl, hl4, by rw [hrl]; exact Nat.lt_of_le_of_lt (show j ≤ 100 by omega) (by decide), ?_⟩
        refine ⟨Ex.mut (e3.trans e4) hltH, _, _, refs ++ [.ref c], tabs ++ [tb], rfl, upd_same, fun M' ok => ?_, by rw [List.length_append, tl]; rfl, fun s tb' h => ?_⟩
        · rw [List.map_append]
          refine (((dt3 M' ok).ex e4).append (.one (.lst hc4 (fun z => z.elim (fun z => ok c z hcH) hcl) ?_))).upd hl4 (.inr rfl)
          rw [dts_intsN dys]
          exact nums_dts tb
        · by_cases hs : s < tabs.length
          · rw [List.getElem?_append_left hs] at h
            exact tok s tb' h
          · have hs2 := (List.getElem?_eq_some_iff.mp h).1
            rw [List.length_append] at hs2
            have hs2 : s < tabs.length + 1 := hs2
            have es : s = j := by omega
            subst es
            rw [List.getElem?_append_right (by omega), show s - tabs.length = 0 by omega] at h
            cases h
            exact ⟨hl, hltm⟩
    · rintro σ' H3 ⟨e3, u5, u6, refs, tabs, rfl, hl3, dt3, tl, tok⟩
      rw [hxl] at tl
      refine ⟨_, rfl, _, rfl, evn_lcRI (K := K) (M := MF) (n := m) (fun i es => ∃ ls : List Nat, es = (ofN ls).map PyData.int ∧ ls.Pairwise (· < ·) ∧ ∀ x ∈ ls, x < i) okF (eva_cons (evd_var (i := 3) rfl (.int _)) eva_nil) (by omega) ⟨[], rfl, .nil, fun x h => nomatch h⟩ (fun M' i es H' hm ok' hi hI e Qg qg => ?_) H3 (Ex.refl _) _ fun c ys ds H4 hc e4 hc4 dys pI => ⟨by show 3 ≤ sizeLine; decide, fun p hp => ?_⟩⟩
      · obtain ⟨ls, rfl, hl, hlt⟩ := hI
        refine qg _ H' (Ex.refl _) ⟨rfl, fun H5 e5 Q q => evtp_test (K := K) (M := MF) (PB := fun _ => True) (evp_take1 (ev_var (i := 0) rfl) (((e3.trans e).trans e5) _ _ hb) (by decide) (by decide)) H5 (Ex.refl _) Q fun c H6 e6 _ => q c H6 e6 (fun _ => ?_) (fun _ => ⟨ls, rfl, hl, fun x hx => Nat.lt_succ_of_lt (hlt x hx)⟩)⟩
        refine (evd_var (i := 8) rfl (.int (i : Int))).mono fun d h => ⟨ls ++ [i], ?_, List.pairwise_append.mpr ⟨hl, List.pairwise_singleton _ _, fun x hx y hy => by rw [List.mem_singleton.mp hy]; exact hlt x hx⟩, fun x hx => ?_⟩
        · unfold ofN
          rw [List.map_append, List.map_append, h]
          rfl
        · rcases List.mem_append.mp hx with hx | hx
          · exact Nat.lt_succ_of_lt (hlt x hx)
          · rw [List.mem_singleton.mp hx]
            exact Nat.lt_succ_self _
      · obtain ⟨ls, rfl, hl, hltm⟩ := pI
        have e5 : Ex H4 (upd H4 p (.tup [.int (m : Int), .ref lt, .ref c])) := Ex.new hp
        have hcH : H c = none := fresh_back e3 hc
        refine q _ ⟨m, tabs, ls⟩ _ ((e3.trans e4).trans e5) ⟨⟨h1, tl, tok, hl, hltm⟩, by show m ≤ 40; omega⟩ h2 fun M' ok => .tup upd_same (.cons (.int _) (.cons (.lst ((e4.trans e5) _ _ hl3) (fun z => ok lt z hltH) (((dt3 M' ok).weak fun a h => .inl h).ex (e4.trans e5))) (.cons (.lst (e5 _ _ hc4) (fun z => ok c z hcH) ?_) .nil)))
        rw [dts_intsN dys]
        exact nums_dts ls
end
end TH
set_option maxRecDepth 100000
set_option maxHeartbeats 4000000
namespace TH
open PySem L2 Evl
/-! ### a Reader is made -/
theorem BookAt.updI {M : Addr → Prop} {H : Hp} {C pb p C' dx : Addr} {S : List Sg} {fs : List (Str × V)} {o : HO} (h : BookAt C M H pb S) (hp : H p = some (.ins C' dx fs)) (hne : p ≠ pb) : BookAt C M (L2.upd H p o) pb S := by
  obtain ⟨dx', l1, l2, h1, h2, h3, h4, h5⟩ := h
  refine ⟨dx', l1, l2, ?_, ?_, h3, ?_, h5⟩
  · rw [upd_ne (Ne.symm hne)]
    exact h1
  · rw [upd_ne (ne_of h2 hp (by intro z; cases z))]
    exact h2
  · rw [upd_ne (ne_of h4 hp (by intro z; cases z))]
    exact h4
theorem okUpd {M : Addr → Prop} {H : Hp} {p : Addr} {o : HO} (ok : Ok M H) : Ok M (L2.upd H p o) := fun l m => by
  by_cases e : l = p
  · rw [e, upd_same]
    simp
  · rw [upd_ne e]
    exact ok l m
theorem call_list_ofK {X : Cx} {K : PySem.W.Frag} (h : X.K = K) : CallR X (.type "list") (fun xs H Q => ∃ p ys, xs = [.ref p] ∧ (SqL K H p ys ∨ SqT K H p ys) ∧ ∀ l, H l = none → Q (.ref l) (upd H l (.lst ys))) := by
  subst h
  exact call_list_of
theorem q_fldR {K : PySem.W.Frag} {H : Hp} {σ : L2.St} {D : Ends} {tz : TS} {i j : Nat} {f : Str} {v : V} {p C dx : Addr} {fs : List (Str × V)} (hv : σ[j]? = some (some v)) (hs : σ[i]? = some (some (.ref p))) (hp : H p = some (.ins C dx fs)) (c : Cls K C) (n : NoAttr K C f) (hl : fs.length < 1000)
    (k : tz D σ (upd H p (.ins C dx (putF f v fs)))) : tSeq (sFld K (tVar i) (tVar j) f) tz D σ H := ⟨v, hv, _, hs, p, C, dx, fs, rfl, hp, c, n, hl, k⟩
/-- data that are new since H, whatever may change of what stood -/
def MO (H : Hp) : Addr → Prop := fun a => H a ≠ none
theorem okO {H : Hp} : Ok (MO H) H := fun _ h => h
theorem newD_of {K : PySem.W.Frag} {H H' : Hp} {x : V} {d : PyData} (h : Dt K (MO H) H' x d) : NewD K H H' x d := fun M' ok => h.weak fun a m => ok a m
theorem NewD.from {K : PySem.W.Frag} {H0 H H' : Hp} {x : V} {d : PyData} (h : NewD K H H' x d) (e : ∀ b o, H0 b = some o → ∃ o', H b = some o') : NewD K H0 H' x d := fun M' ok => h M' fun l m => by
  cases hl : H0 l with
  | none => exact absurd hl (ok l m)
  | some o =>
    obtain ⟨o', h'⟩ := e l o hl
    rw [h']
    simp
section
variable {K : PySem.W.Frag} {M N : Addr → Prop} {H : Hp} {σ : L2.St} {tl te : TE} {tt : TT} {g : TG} {vs : List Nat}
/-- a comprehension: what is gone over may lie among what changes -/
theorem evn_lcMN {β : Type} {bs : List β} (enc F : β → PyData) (ok : Ok N H) (hl : EvD K M tl σ H (.list (bs.map enc))) (hz : bs.length < sizeLine)
    (hs : ∀ (N' : Addr → Prop) (b : β) (x : V) (H' : Hp), (∀ v d, Dt K N H v d → Dt K N' H' v d) → Ok N' H' → b ∈ bs → Ex H H' → Dt K M H' x (enc b) →
      ∀ Qg : L2.St → Hp → Prop, (∀ σ2 H2, Ex H' H2 → Turned K N' σ vs tt te true (· = F b) σ2 H2 → Qg σ2 H2) → g x (wipe σ vs) H' Qg) :
    EvNew K N (tLc (iList K tl) g tt te vs) σ H (· = bs.map F) := fun H0 e Q q =>
  hl H0 e _ fun v d H1 e1 dv pd => by
    subst pd
    cases dv with
    | lst h1 h2 h3 =>
      rename_i a xs
      refine ⟨a, rfl, ⟨xs, sq_of h1⟩, fun D hD => ?_⟩
      have hw : Walk (Itl K a) bs.length (fun H => SqL K H a xs) (YAt xs) := by
        have := h3.length
        rw [List.length_map] at this
        rw [← this]
        exact walk_list
      refine lc_data (K := K) (σ := σ) (vs := vs) bs hw ((ok.ex (e.trans e1))) hD hz (fun _ => true) (fun b e => e = F b) (fun H e => sq_of (e _ _ h1)) (fun M' i b x H2 H' hm ok' hb e2 y Qg qg => ?_) (fun H2 es e2 dd pr => ?_)
      · obtain ⟨rfl, hx⟩ := y
        obtain ⟨d', hd', dx⟩ := h3.get hx
        rw [List.getElem?_map, hb] at hd'
        cases hd'
        exact hs M' b x _ (fun v d h => (hm v d (h.ex (e.trans e1))).ex e2) ok' (List.mem_of_getElem? hb) ((e.trans e1).trans e2) (dx.ex e2) Qg qg
      · cases dd with
        | lst w1 w2 w3 => exact q D _ es H2 (fresh_back e1 hD) (e1.trans e2) w1 w3 (by rw [paired_map pr, filter_all])
theorem evn_listOf {ta : TA} {ds : List PyData} (h : EvDA K M ta σ H [.list ds]) : ∀ H1, Ex H H1 → ∀ Q : VK, (∀ l xs H2, H1 l = none → Ex H1 H2 → H2 l = some (.lst xs) → Dts K M H2 xs ds → Q (.ref l) H2) → tCB (fun xs H Q => ∃ p ys, xs = [.ref p] ∧ (SqL K H p ys ∨ SqT K H p ys) ∧ ∀ l, H l = none → Q (.ref l) (upd H l (.lst ys))) ta σ H1 Q := fun H1 e Q q =>
  h H1 e _ fun vs es H2 e2 dv pd => by
    subst pd
    cases dv with
    | cons h1 h2 =>
      cases h2
      cases h1 with
      | lst k1 k2 k3 => exact ⟨_, _, rfl, .inl (sq_of k1), fun l hl => q l _ _ (fresh_back e2 hl) (e2.trans (Ex.new hl)) upd_same (k3.ex (Ex.new hl))⟩
/-- list(..) of ints: new -/
theorem evd_listNew {ta : TA} {ns : List Int} (ok : Ok N H) (h : EvDA K M ta σ H [listI ns]) : EvD K N (tCB (fun xs H Q => ∃ p ys, xs = [.ref p] ∧ (SqL K H p ys ∨ SqT K H p ys) ∧ ∀ l, H l = none → Q (.ref l) (upd H l (.lst ys))) ta) σ H (listI ns) := fun H1 e Q q =>
  evn_listOf h H1 e Q fun l xs H2 hl e2 h2 dx => q _ _ H2 e2 (.lst h2 ((ok.ex e).new hl) (by rw [dx.ints]; exact Dts.of_ints ns)) rfl
end
/-- what stands when the fields are kept -/
def Kept (K : PySem.W.Frag) (CR : Addr) (H H' : Hp) (p pb : Addr) (m : Int) (tabs : List (List Int)) (ls : List Int) : Prop :=
  ∃ dx lt ll, H' p = some (.ins CR dx (rflds pb m lt ll)) ∧ NewD K H H' (.ref lt) (.list (tabs.map listI)) ∧ NewD K H H' (.ref ll) (listI ls) ∧ ∀ b o, H b = some o → b ≠ p → H' b = some o
structure Args (K : PySem.W.Frag) (M : Addr → Prop) (H : Hp) (vt vl : V) (tabs : List (List Int)) (ls : List Int) : Prop where
  tab : Dt K M H vt (.list (tabs.map listI))
  lik : Dt K M H vl (listI ls)
  l1 : tabs.length ≤ 100000
  l2 : ∀ tb ∈ tabs, tb.length ≤ 100000
theorem Args.ex {K : PySem.W.Frag} {M : Addr → Prop} {H H' : Hp} {vt vl : V} {tabs : List (List Int)} {ls : List Int} (h : Args K M H vt vl tabs ls) (e : Ex H H') : Args K M H' vt vl tabs ls := ⟨h.tab.ex e, h.lik.ex e, h.l1, h.l2⟩
def spRKeep (K : PySem.W.Frag) (CR : Addr) : Sp := fun vs H Q _ => ∃ (M : Addr → Prop) (p pb dx : Addr) (vt vl : V) (m : Int) (tabs : List (List Int)) (ls : List Int) (fs : List (Str × V)), vs = [.ref p, .ref pb, .int m, vt, vl] ∧ H p = some (.ins CR dx fs) ∧ fs.length ≤ 900 ∧
  (∀ pb m lt ll, putF "_liked" (.ref ll) (putF "_tables" (.ref lt) (putF "_moods" (.int m) (putF "_book" (.ref pb) fs))) = rflds pb m lt ll) ∧ Args K M H vt vl tabs ls ∧
  ∀ H', Kept K CR H H' p pb m tabs ls → Q .non H'
def rokB (S : List Sg) (m : Int) (tabs : List (List Int)) (ls : List Int) : Bool := (decide (1 ≤ m) && decide (m ≤ 6)) && (tabsB S m.toNat tabs && likB m (-1) ls)
def spRInit (K : PySem.W.Frag) (CB CR CN : Addr) : Sp := fun vs H Q E => ∃ (M Mb : Addr → Prop) (p pb dx : Addr) (vt vl : V) (S : List Sg) (m : Int) (tabs : List (List Int)) (ls : List Int), vs = [.ref p, .ref pb, .int m, vt, vl] ∧ H p = some (.ins CR dx []) ∧ KidsOk S ∧ Ok M H ∧ BookAt CB Mb H pb S ∧ Args K M H vt vl tabs ls ∧
  (rokB S m tabs ls = true → ∀ H', Kept K CR H H' p pb m tabs ls → Q .non H') ∧ (rokB S m tabs ls = false → ∀ H', Ex H H' → E (.ref CN) none H')
theorem Kept.from {K : PySem.W.Frag} {CR : Addr} {H0 H H' : Hp} {p pb : Addr} {m : Int} {tabs : List (List Int)} {ls : List Int} (h : Kept K CR H H' p pb m tabs ls) (e : Ex H0 H) : Kept K CR H0 H' p pb m tabs ls := by
  obtain ⟨dx, lt, ll, h1, h3, h4, h5⟩ := h
  exact ⟨dx, lt, ll, h1, h3.from fun b o h => ⟨o, e b o h⟩, h4.from fun b o h => ⟨o, e b o h⟩, fun b o hb hne => h5 b o (e b o hb) hne⟩
section
variable {P : Program} {w : World} {K : PySem.W.Frag} {mg : Str → Option Value} {base : Heap} {CB CR CN : Addr}
abbrev nRKeep : List Str := ["self", "book", "moods", "tables", "liked", "table"]
theorem scRKeep : FnScope nRKeep ["self", "book", "moods", "tables", "liked"] (defScope sRKeep) := ⟨rfl, rfl, rfl, by decide +kernel, rfl, by decide +kernel, by decide +kernel⟩
theorem ok_rkeep {f : Addr} {fd : FuncData} (F : Fun K "_keep" "Reader._keep" sRKeep f fd) (GY : GlobY mg) (T : ReadT K mg CR) : FnOk P w K mg base CX0 1 f fd ["self", "book", "moods", "tables", "liked"] (spRKeep K CR) := by
  refine F.ok scRKeep (fun vs H Q E h => ?_) (fun cdv A outer s0 H vs Q E hr h => ?_)
  · obtain ⟨M, p, pb, dx, vt, vl, m, tabs, ls, fs, rfl, _⟩ := h
    rfl
  · obtain ⟨M, p, pb, dx, vt, vl, m, tabs, ls, fs, rfl, hp, hfl, hfs, hA, q⟩ := h
    refine ⟨_, pss_cons (ps_fld (pv 0) (pv 1) rfl)
      (pss_cons (ps_fld (pv 0) (pv 2) rfl)
      (pss_cons (ps_fld (pv 0) (pe_lc (own := [("table", 5)]) (g := gName 5) (tt := tYes) rfl scRKeep.nd (pi_list (pv 3)) (blkOk_by (N := nRKeep) (sc := defScope sRKeep) (by decide +kernel)) (fun _ _ _ _ _ => pg_name (i := 5) scRKeep.nd rfl (.inl rfl)) (fun _ _ _ _ _ => pts_nil)
          (fun _ _ _ _ _ => pe_callTy (call_list_ofK (K := K) rfl) (by rfl) GY.list (by decide +kernel) (pa_cons (pv 5) pa_nil))) rfl)
      (pss_one (ps_fld (pv 0) (pe_callTy call_list_of (by rfl) GY.list (by decide +kernel) (pa_cons (pv 4) pa_nil)) rfl)))), ?_⟩
    have fl1 : ∀ (x : Str) (v : V) (gs : List (Str × V)) (n : Nat), gs.length ≤ n → (putF x v gs).length ≤ n + 1 := fun x v gs n h => Nat.le_trans (length_putF x v gs) (Nat.succ_le_succ h)
    have g1 := fl1 "_book" (.ref pb) fs 900 hfl
    have g2 := fl1 "_moods" (.int m) _ 901 g1
    refine q_fldR rfl rfl hp T.cl T.n1 (by omega) ?_
    have hp1 : (upd H p (.ins CR dx (putF "_book" (.ref pb) fs))) p = some (.ins CR dx (putF "_book" (.ref pb) fs)) := upd_same
    refine q_fldR rfl rfl hp1 T.cl T.n2 (by omega) ?_
    rw [upd_upd]
    have hp2 : (upd H p (.ins CR dx (putF "_moods" (.int m) (putF "_book" (.ref pb) fs)))) p = some (.ins CR dx (putF "_moods" (.int m) (putF "_book" (.ref pb) fs))) := upd_same
    have hT2 : Dt K M (upd H p (.ins CR dx (putF "_moods" (.int m) (putF "_book" (.ref pb) fs)))) vt (.list (tabs.map listI)) := hA.tab.updI hp
    have hL2 : Dt K M (upd H p (.ins CR dx (putF "_moods" (.int m) (putF "_book" (.ref pb) fs)))) vl (listI ls) := hA.lik.updI hp
    have ok2 : Ok (MO H) (upd H p (.ins CR dx (putF "_moods" (.int m) (putF "_book" (.ref pb) fs)))) := okUpd okO
    have k2 : ∀ b o, H b = some o → b ≠ p → (upd H p (.ins CR dx (putF "_moods" (.int m) (putF "_book" (.ref pb) fs)))) b = some o := fun b o hb hne => by rw [upd_ne hne]; exact hb
    generalize upd H p (.ins CR dx (putF "_moods" (.int m) (putF "_book" (.ref pb) fs))) = H2 at hp2 hT2 hL2 ok2 k2
    refine q_fldP (K := K) (M := MO H) (i := 0) (P := (· = .list (tabs.map listI))) ?_ fun v1 d1 H3 e3 dv1 pd1 => ⟨p, CR, dx, _, rfl, e3 _ _ hp2, T.cl, T.n3, by omega, ?_⟩
    · refine ((evn_lcMN (M := M) (N := MO H) (bs := tabs) listI listI ok2 (evd_var (i := 3) rfl hT2) (Nat.lt_of_le_of_lt hA.l1 (by decide)) fun M' tb x H' hM ok' hb e dx Qg qg => ?_).data ok2).mono fun d hd => ?_
      · exact qg _ H' (Ex.refl _) ⟨rfl, evt_yes, fun _ => evd_listNew (M := M) ok' (eva_cons (evd_var (i := 5) rfl dx) eva_nil)⟩
      · obtain ⟨ds, rfl, rfl⟩ := hd
        rfl
    subst pd1
    obtain ⟨lt, rfl⟩ : ∃ lt, v1 = .ref lt := by
      cases dv1 with
      | lst h1 h2 h3 => exact ⟨_, rfl⟩
    have hp3 := e3 _ _ hp2
    have hT4 : Dt K (MO H) (upd H3 p (.ins CR dx (putF "_tables" (.ref lt) (putF "_moods" (.int m) (putF "_book" (.ref pb) fs))))) (.ref lt) (.list (tabs.map listI)) := dv1.updI hp3
    have hL4 : Dt K M (upd H3 p (.ins CR dx (putF "_tables" (.ref lt) (putF "_moods" (.int m) (putF "_book" (.ref pb) fs))))) vl (listI ls) := (hL2.ex e3).updI hp3
    have ok4 : Ok (MO H) (upd H3 p (.ins CR dx (putF "_tables" (.ref lt) (putF "_moods" (.int m) (putF "_book" (.ref pb) fs))))) := okUpd (ok2.ex e3)
    have hp4 : (upd H3 p (.ins CR dx (putF "_tables" (.ref lt) (putF "_moods" (.int m) (putF "_book" (.ref pb) fs))))) p = some (.ins CR dx (putF "_tables" (.ref lt) (putF "_moods" (.int m) (putF "_book" (.ref pb) fs)))) := upd_same
    have k4 : ∀ b o, H b = some o → b ≠ p → (upd H3 p (.ins CR dx (putF "_tables" (.ref lt) (putF "_moods" (.int m) (putF "_book" (.ref pb) fs))))) b = some o := fun b o hb hne => by rw [upd_ne hne]; exact e3 _ _ (k2 b o hb hne)
    have g3 := fl1 "_tables" (.ref lt) _ 902 g2
    generalize upd H3 p (.ins CR dx (putF "_tables" (.ref lt) (putF "_moods" (.int m) (putF "_book" (.ref pb) fs)))) = H4 at hp4 hT4 hL4 ok4 k4
    refine s_fldP (K := K) (M := MO H) (i := 0) (P := (· = listI ls)) (evd_listNew (M := M) ok4 (eva_cons (evd_var (i := 4) rfl hL4) eva_nil)) fun v2 d2 H5 e5 dv2 pd2 => ⟨p, CR, dx, _, rfl, e5 _ _ hp4, T.cl, T.n4, by omega, ?_⟩
    subst pd2
    obtain ⟨ll, rfl⟩ : ∃ ll, v2 = .ref ll := by
      cases dv2 with
      | lst h1 h2 h3 => exact ⟨_, rfl⟩
    rw [hfs]
    have hp5 := e5 _ _ hp4
    exact q _ ⟨dx, lt, ll, upd_same, newD_of ((hT4.ex e5).updI hp5), newD_of (dv2.updI hp5), fun b o hb hne => by rw [upd_ne hne]; exact e5 _ _ (k4 b o hb hne)⟩
abbrev nRInit : List Str := ["self", "book", "moods", "tables", "liked"]
theorem scRInit : FnScope nRInit ["self", "book", "moods", "tables", "liked"] (defScope sRInit) := ⟨rfl, rfl, rfl, by decide +kernel, rfl, by decide +kernel, by decide +kernel⟩
structure GlobM (mg : Str → Option Value) : Prop where
  most : ∃ t, mg "MOST_MOODS" = some (.int 6 t)
theorem ok_rinit {f : Addr} {fd : FuncData} (F : Fun K "__init__" "Reader.__init__" sRInit f fd) (GM : GlobM mg) (T : ReadT K mg CR) (TN : ExcT K mg "NoReader" CN) (B1 : OneF P w K mg base "are_tables" 3 ["book", "moods", "tables"] (spAreTabs K CB)) (B2 : OneF P w K mg base "are_liked" 1 ["liked", "moods"] (spAreLiked K))
    (B3 : OneM P w K mg base CR "_keep" 1 ["self", "book", "moods", "tables", "liked"] (spRKeep K CR)) : FnOk P w K mg base (L2.CX P w) 4 f fd ["self", "book", "moods", "tables", "liked"] (spRInit K CB CR CN) := by
  obtain ⟨f1, d1, m1, k1, g1, b1⟩ := B1
  obtain ⟨f2, d2, m2, k2, g2, b2⟩ := B2
  obtain ⟨f3, d3, m3, g3, b3⟩ := B3
  obtain ⟨t, hL⟩ := GM.most
  refine F.okX scRInit (fun vs H Q E h => ?_) (fun cdv A outer s0 H vs Q E hr h => ?_)
  · obtain ⟨M, Mb, p, pb, dx, vt, vl, S, m, tabs, ls, rfl, _⟩ := h
    rfl
  · obtain ⟨M, Mb, p, pb, dx, vt, vl, S, m, tabs, ls, rfl, hp, hK, ok, hB, hA, qy, qn⟩ := h
    have hr1 : Room 1 _ := hr.mono (show 1 ≤ 3 by decide)
    refine ⟨_, pss_cons (ps_if (pt_not (pt_chain op_le op_le pe_int (pv 2) (pe_glob rfl hL (show RelV (.int 6) _ from ⟨_, rfl⟩)))) (pss_one (ps_raise rfl (takes_of rfl rfl rfl rfl) (pmk_own PySem.F.excBase_ValueError TN.x TN.g TN.k (raises_own TN.b TN.t) rfl))) pss_nil)
      (pss_cons (ps_if (pt_not (pt_val (pe_call g1 hr rfl m1 k1 b1 .nil pass0 (pa_cons (pv 1) (pa_cons (pv 2) (pa_cons (pv 3) pa_nil)))))) (pss_one (ps_raise rfl (takes_of rfl rfl rfl rfl) (pmk_own PySem.F.excBase_ValueError TN.x TN.g TN.k (raises_own TN.b TN.t) rfl))) pss_nil)
      (pss_cons (ps_if (pt_not (pt_val (pe_call g2 hr1 rfl m2 k2 b2 .nil pass0 (pa_cons (pv 4) (pa_cons (pv 2) pa_nil))))) (pss_one (ps_raise rfl (takes_of rfl rfl rfl rfl) (pmk_own PySem.F.excBase_ValueError TN.x TN.g TN.k (raises_own TN.b TN.t) rfl))) pss_nil)
      (pss_one (ps_expr (pe_meth (pv 0) T.cl m3 g3 hr1 b3 .nil pass0 (pa_cons (pv 1) (pa_cons (pv 2) (pa_cons (pv 3) (pa_cons (pv 4) pa_nil))))))))), ?_⟩
    refine q_when (evt_not (evt_test (K := K) (M := M) (evd_chainI (g := fun i j => decide (i ≤ j)) (g' := fun i j => decide (i ≤ j)) evd_int (evd_var (i := 2) rfl (.int m)) evd_int))) (fun hb H1 e1 => ?_) (fun hb H1 e1 => ?_)
    · rw [Bool.not_eq_true'] at hb
      exact qn (by unfold rokB; rw [hb]; rfl) H1 e1
    rw [Bool.not_eq_false'] at hb
    obtain ⟨m1', m6⟩ : 1 ≤ m ∧ m ≤ 6 := by
      rw [Bool.and_eq_true, decide_eq_true_eq, decide_eq_true_eq] at hb
      exact hb
    have em : m = ((m.toNat : Nat) : Int) := by omega
    refine ⟨_, rfl, _, rfl, _, rfl, M, Mb, pb, vt, S, tabs, m.toNat, by rw [← em]; rfl, hB.ex e1, hK, ok.ex e1, hA.tab.ex e1, hA.l1, hA.l2, by omega, fun H2 e2 => ⟨_, rfl, ?_⟩⟩
    have e12 := e1.trans e2
    cases hT : tabsB S m.toNat tabs with
    | false => exact iteT (qn (by unfold rokB; rw [hb, hT]; rfl) H2 e12)
    | true =>
    refine iteF ⟨_, rfl, _, rfl, M, vl, ls, m, rfl, hA.lik.ex e12, fun H3 e3 => ⟨_, rfl, ?_⟩⟩
    have e13 := e12.trans e3
    cases hL' : likB m (-1) ls with
    | false => exact iteT (qn (by unfold rokB; rw [hb, hT, hL']; rfl) H3 e13)
    | true =>
    refine iteF ⟨_, rfl, p, dx, [], rfl, e13 _ _ hp, rfl, _, rfl, _, rfl, _, rfl, _, rfl, M, p, pb, dx, vt, vl, m, tabs, ls, [], rfl, e13 _ _ hp, by decide, fun _ _ _ _ => rfl,
      hA.ex e13, fun H4 hk => qy (by unfold rokB; rw [hb, hT, hL']; rfl) H4 (hk.from e13)⟩
end
end TH
set_option maxRecDepth 100000
set_option maxHeartbeats 4000000
namespace TH
open PySem L2 Evl
theorem tabs_at {R : Pl} {s : Nat} {tb : List Nat} (h : R.tables[s]? = some tb) : (R.tables.map intsD)[s]? = some (.list ((ofN tb).map PyData.int)) := by
  rw [List.getElem?_map, h]
  rfl
theorem fold_snoc {m : Nat} {k : List Nat} {i x : Nat} (h : k[i]? = some x) : spotN m (k.take (i + 1)) = spotN m (k.take i) * m + x := by
  unfold spotN
  rw [List.take_add_one, h]
  show (k.take i ++ [x]).foldl _ 0 = _
  rw [List.foldl_append]
  rfl
theorem spot_small {R : Pl} {S : List Sg} (g : GoodR S R) {k : List Nat} (hK : k.length ≤ 2) (hm : ∀ x ∈ k, x < R.moods) (i : Nat) : spotN R.moods (k.take i) ≤ 1600 := by
  have h := spotN_lt (m := R.moods) (k := k.take i) fun x hx => hm x (List.mem_of_mem_take hx)
  have h1 : R.moods ^ (k.take i).length ≤ 40 ^ (k.take i).length := Nat.pow_le_pow_left g.m6 _
  have h2 : (40 : Nat) ^ (k.take i).length ≤ 40 ^ 2 := Nat.pow_le_pow_right (by decide) (by rw [List.length_take]; omega)
  omega
section
variable {P : Program} {w : World} {K : PySem.W.Frag} {mg : Str → Option Value} {base : Heap}
abbrev nLLed : List Str := ["_law_plain", "_law_sign", "_law_kids", "_law_spot", "_law_mood_here"]
theorem scLLed : FnScope nLLed ["_law_plain", "_law_sign", "_law_kids"] (defScope sLLed) := ⟨rfl, rfl, rfl, by decide +kernel, rfl, by decide +kernel, by decide +kernel⟩
/-- what the loop and the end of it want, once for lists and tuples -/
theorem led_end {M : Addr → Prop} {H H1 : Hp} {v z : V} {S : List Sg} {R : Pl} {s : Nat} {k : List Nat} {u : Option V} {D : Ends} (hv : Dt K M H v (plD R)) (g : GoodR S R) (hs : s < S.length) (hk : k.length = ks S s) (hm : ∀ x ∈ k, x < R.moods) (e : Ex H H1)
    (q : ∀ H', Ex H H' → D.rt (.int (ledN R s k : Int)) H') :
    tRet (tOp (rIxL K) (tOp (rIxL K) (tOp (rIxT K) (tVar 0) (tC (.int 1))) (tVar 1)) (tVar 3)) D [some v, some (.int (s : Int)), some z, some (.int (spotN R.moods k : Int)), u] H1 := by
  obtain ⟨tb, h1, h2, h3⟩ := g.led hs hk hm
  refine s_retP (K := K) (M := M) (evd_ixL (j := spotN R.moods k) (evd_ixL (j := s) (evd_ixT (j := 1) (ds := [.int (R.moods : Int), .list (R.tables.map intsD), intsD R.liked]) (evd_var (i := 0) (d := plD R) rfl (hv.ex e)) evd_int rfl rfl) (evd_var (i := 1) rfl (.int _)) rfl (tabs_at h1)) (evd_var (i := 3) rfl (.int _)) rfl (by rw [List.getElem?_map, ofN_at h2]; rfl)) fun x d H2 e2 dx pd => ?_
  subst pd
  cases dx
  exact q H2 (e.trans e2)
theorem led_turn {M : Addr → Prop} {H H1 : Hp} {v z : V} {S : List Sg} {R : Pl} {s : Nat} {k : List Nat} {i x : Nat} {D : Ends} (hv : Dt K M H v (plD R)) (g : GoodR S R) (hk2 : k.length ≤ 2) (hm : ∀ x ∈ k, x < R.moods) (e : Ex H H1) (hx : k[i]? = some x)
    (q : ∀ H', Ex H H' → D.nx [some v, some (.int (s : Int)), some z, some (.int (spotN R.moods (k.take (i + 1)) : Int)), some (.int (x : Int))] H') :
    tAsg (tOp (rI0 fun i j => .int (i + j)) (tOp (rI CMul fun i j => .int (i * j)) (tVar 3) (tOp (rIxT K) (tVar 0) (tC (.int 0)))) (tVar 4)) (gName 3) D [some v, some (.int (s : Int)), some z, some (.int (spotN R.moods (k.take i) : Int)), some (.int (x : Int))] H1 := by
  have hs := spot_small g hk2 hm i
  refine s_asgP (K := K) (M := M) (evd_add (evd_mulN (evd_var (i := 3) rfl (.int _)) (evd_ixT (j := 0) (ds := [.int (R.moods : Int), .list (R.tables.map intsD), intsD R.liked]) (evd_var (i := 0) (d := plD R) rfl (hv.ex e)) evd_int rfl rfl) (by omega)) (evd_var (i := 4) rfl (.int _))) fun y d H2 e2 dy pd => ?_
  subst pd
  cases dy
  have := q H2 (e.trans e2)
  rw [fold_snoc hx, Int.natCast_add, Int.natCast_mul] at this
  exact this
theorem ok_lledT {f : Addr} {fd : FuncData} (F : Fun K "_law_led" "_law_led" sLLed f fd) :
    FnOk P w K mg base CX0 1 f fd ["_law_plain", "_law_sign", "_law_kids"] (spLLedT K) := by
  refine F.ok scLLed (fun vs H Q E h => ?_) (fun cdv A outer s0 H vs Q E hr h => ?_)
  · obtain ⟨M, v, z, S, R, s, k, rfl, _⟩ := h
    rfl
  · obtain ⟨M, v, z, S, R, s, k, rfl, hv, ⟨a, rfl, ha⟩, g, hK, hs, hk, hm, q⟩ := h
    refine ⟨_, pss_cons (ps_set (i := 3) scLLed.nd rfl (.inl rfl) pe_int)
      (pss_cons (ps_for PassesOwn.never rfl (pi_tup (pv 2)) (pg_name (i := 4) scLLed.nd rfl (.inl rfl))
        (pss_one (ps_set (i := 3) scLLed.nd rfl (.inl rfl) (pe_op op_add (pe_op op_mul (pv 3) (pe_ix ix_tup (pv 0) pe_int (fun _ _ => rfl))) (pv 4)))))
      (pss_one (ps_ret (pe_ix ix_list (pe_ix ix_list (pe_ix ix_tup (pv 0) pe_int (fun _ _ => rfl)) (pv 1) (fun _ _ => rfl)) (pv 3) (fun _ _ => rfl))))), ?_⟩
    have hk2 : k.length ≤ 2 := by rw [hk]; exact ks_le hK s
    refine ⟨_, rfl, a, rfl, ⟨_, ha⟩, for_tup (K := K) (a := a) (xs := nums k) (fun i σ' H' => Ex H H' ∧ ∃ u, σ' = [some v, some (.int (s : Int)), some (.ref a), some (.int (spotN R.moods (k.take i) : Int)), u])
      ⟨Ex.refl H, none, rfl⟩ (fun i σ' H' _ z => ex_t z.1 ha) ?_ ?_⟩
    · rintro i x σ' H1 hx ⟨e, u, rfl⟩
      obtain ⟨hi, _⟩ := List.getElem?_eq_some_iff.mp hx
      rw [nums_len] at hi
      have hx1 : k[i]? = some (k[i]'hi) := List.getElem?_eq_getElem _
      rw [nums_at hx1] at hx
      cases hx
      exact led_turn hv g hk2 hm e hx1 fun H' e' => ⟨e', _, rfl⟩
    · rintro σ' H1 ⟨e, u, rfl⟩
      rw [nums_len, List.take_length]
      exact led_end hv g hs hk hm e q
theorem ok_lledL {f : Addr} {fd : FuncData} (F : Fun K "_law_led" "_law_led" sLLed f fd) :
    FnOk P w K mg base CX0 1 f fd ["_law_plain", "_law_sign", "_law_kids"] (spLLedL K) := by
  refine F.ok scLLed (fun vs H Q E h => ?_) (fun cdv A outer s0 H vs Q E hr h => ?_)
  · obtain ⟨M, v, z, S, R, s, k, rfl, _⟩ := h
    rfl
  · obtain ⟨M, v, z, S, R, s, k, rfl, hv, ⟨a, rfl, ha⟩, g, hK, hs, hk, hm, q⟩ := h
    refine ⟨_, pss_cons (ps_set (i := 3) scLLed.nd rfl (.inl rfl) pe_int)
      (pss_cons (ps_for PassesOwn.never rfl (pi_list (pv 2)) (pg_name (i := 4) scLLed.nd rfl (.inl rfl))
        (pss_one (ps_set (i := 3) scLLed.nd rfl (.inl rfl) (pe_op op_add (pe_op op_mul (pv 3) (pe_ix ix_tup (pv 0) pe_int (fun _ _ => rfl))) (pv 4)))))
      (pss_one (ps_ret (pe_ix ix_list (pe_ix ix_list (pe_ix ix_tup (pv 0) pe_int (fun _ _ => rfl)) (pv 1) (fun _ _ => rfl)) (pv 3) (fun _ _ => rfl))))), ?_⟩
    have hk2 : k.length ≤ 2 := by rw [hk]; exact ks_le hK s
    refine ⟨_, rfl, a, rfl, ⟨_, ha⟩, for_list (K := K) (a := a) (xs := nums k) (fun i σ' H' => Ex H H' ∧ ∃ u, σ' = [some v, some (.int (s : Int)), some (.ref a), some (.int (spotN R.moods (k.take i) : Int)), u])
      ⟨Ex.refl H, none, rfl⟩ (fun i σ' H' _ z => ex_l z.1 ha) ?_ ?_⟩
    · rintro i x σ' H1 hx ⟨e, u, rfl⟩
      obtain ⟨hi, _⟩ := List.getElem?_eq_some_iff.mp hx
      rw [nums_len] at hi
      have hx1 : k[i]? = some (k[i]'hi) := List.getElem?_eq_getElem _
      rw [nums_at hx1] at hx
      cases hx
      exact led_turn hv g hk2 hm e hx1 fun H' e' => ⟨e', _, rfl⟩
    · rintro σ' H1 ⟨e, u, rfl⟩
      rw [nums_len, List.take_length]
      exact led_end hv g hs hk hm e q
end
end TH
set_option maxRecDepth 100000
set_option maxHeartbeats 4000000
namespace TH
open PySem L2 Evl
abbrev sLMood : Stmt := top 35
def spLMood (K : PySem.W.Frag) : Sp := fun vs H Q _ => ∃ (M : Addr → Prop) (v y z : V) (S : List Sg) (R : Pl) (t : Tr), vs = [v, y, z] ∧ Dt K M H v (.list (S.map sgD)) ∧ KidsOk S ∧ Dt K M H y (plD R) ∧ GoodR S R ∧ Dt K MF H z (rowD t) ∧ OkT S t ∧ t.size ≤ 1000 ∧
  ∀ H', Ex H H' → Q (.int (moodT R t : Int)) H'
theorem pe_bm0L {X : Cx} {K : PySem.W.Frag} {o : Expr} {to : TE} {name : Str} {apos cpos : Pos} {T id : String} {r : V → List V → Hp → VK → Prop} (hK : X.K = K) (pa : PySem.PlainAttrs T) (slot : Slot T name id) (hty : typeOf (.builtin id) = pure (.type "method_descriptor")) (hm : MtR X id r) (ho : PE X o to)
    (hbase : attributeBase o name X.env (eval o X.env) = eval o X.env := by rfl) (hline : (apos.endLine == cpos.line) = true := by rfl) : PE X (.Call (.Attribute o name apos) [] [] cpos) (tBM0 K T r to) := by
  subst hK
  exact pe_bm0 pa slot hty hm ho hbase hline
/-- the moods that wait, the last one first -/
def waitM (R : Pl) (ts : List Tr) : List Nat := (ts.map (moodT R)).reverse
theorem waitM_cons (R : Pl) (t : Tr) (ts : List Tr) : waitM R (t :: ts) = waitM R ts ++ [moodT R t] := by
  unfold waitM
  rw [List.map_cons, List.reverse_cons]
theorem waitM_len (R : Pl) (ts : List Tr) : (waitM R ts).length = ts.length := by
  unfold waitM
  rw [List.length_reverse, List.length_map]
theorem kidsNum {S : List Sg} (hK : KidsOk S) {t : Tr} (hO : OkT S t) : ∃ r, S[t.root]? = some r ∧ r.2 = (t.kids.length : Int) := by
  have hrt : t.root < S.length := hO.root
  have hSr : S[t.root]? = some (S[t.root]'hrt) := List.getElem?_eq_getElem hrt
  refine ⟨_, hSr, ?_⟩
  have h1 := hO.ark
  rw [ks_of hSr] at h1
  have := hK _ (List.mem_of_getElem? hSr)
  omega
theorem okTsuf {S : List Sg} {t u : Tr} {us : List Tr} {n : Nat} (hO : OkT S t) (h : Tr.suf n [t] = u :: us) : OkT S u :=
  Tr.okF_suf n (ts := [t]) (fun x hx => by rw [List.mem_singleton.mp hx]; exact hO) u (by rw [h]; exact List.mem_cons_self)
theorem woodLen : ∀ ts : List Tr, ts.length ≤ Tr.sizeF ts
  | [] => Nat.le_refl _
  | t :: ts => by
    rw [Tr.sizeF_cons, List.length_cons]
    have := Tr.size_pos t
    have := woodLen ts
    omega
section
variable {P : Program} {w : World} {K : PySem.W.Frag} {mg : Str → Option Value} {base : Heap}
abbrev nLMood : List Str := ["_law_signs_here", "_law_plain", "_law_row_here", "_law_waiting", "_law_sign", "_law_kids", "_law_turn"]
theorem scLMood : FnScope nLMood ["_law_signs_here", "_law_plain", "_law_row_here"] (defScope sLMood) := ⟨rfl, rfl, rfl, by decide +kernel, rfl, by decide +kernel, by decide +kernel⟩
theorem ok_lmood {f : Addr} {fd : FuncData} (F : Fun K "_law_mood" "_law_mood" sLMood f fd) (G : Glob mg) (GR : GlobR mg) (B : OneF P w K mg base "_law_led" 1 ["_law_plain", "_law_sign", "_law_kids"] (spLLedL K)) :
    FnOk P w K mg base CX0 2 f fd ["_law_signs_here", "_law_plain", "_law_row_here"] (spLMood K) := by
  obtain ⟨f1, d1, m1, k1, g1, b1⟩ := B
  refine F.ok scLMood (fun vs H Q E h => ?_) (fun cdv A outer s0 H vs Q E hr h => ?_)
  · obtain ⟨M, v, y, z, S, R, t, rfl, _⟩ := h
    rfl
  · obtain ⟨M, v, y, z, S, R, t, rfl, hv, hK, hy, gR, hz, hO, hN, q⟩ := h
    refine ⟨_, pss_cons (ps_set (i := 3) scLMood.nd rfl (.inr rfl) (pe_lst pa_nil))
      (pss_cons (ps_for PassesOwn.never rfl (RT.pi_revA (by rfl) GR.reversed (pv 2)) (pg_name (i := 4) scLMood.nd rfl (.inl rfl))
        (pss_cons (ps_setLc (i := 5) (own := [("_law_turn", 6)]) (g := gName 6) (by rfl) scLMood.nd rfl rfl (sw_true rfl rfl rfl (by decide +kernel)) (pi_range1 rfl G.range (pa_cons (pe_ix ix_tup (pe_ix ix_list (pv 0) (pv 4) (fun _ _ => rfl)) pe_int (fun _ _ => rfl)) pa_nil))
            (blkOk_by (N := nLMood) (sc := defScope sLMood) (by decide +kernel)) (fun _ _ _ _ _ => pg_name (i := 6) scLMood.nd rfl (.inl rfl)) (fun _ _ _ _ _ => pts_nil)
            (fun _ _ _ _ _ => pe_bm0L (K := K) rfl PySem.F.plainAttrs_list PySem.F.slot_list_pop PySem.F.type_list_pop mt_pop (pv 3)))
        (pss_one (ps_expr (pe_bm PySem.F.plainAttrs_list PySem.F.slot_list_append PySem.F.type_list_append mt_append (pv 3) (pa_cons (pe_call g1 hr rfl m1 k1 b1 .nil pass0 (pa_cons (pv 1) (pa_cons (pv 4) (pa_cons (pv 5) pa_nil)))) pa_nil))))))
      (pss_one (ps_ret (pe_ix ix_list (pv 3) (pe_un un_neg pe_int) (fun _ _ => rfl))))), ?_⟩
    obtain ⟨a, rfl, hS⟩ := dt_tupS hz
    have hlen : ((ofN t.row).map V.int).length = t.size := by rw [List.length_map, ofN_len]; rfl
    refine ⟨by decide, fun lw hw => ?_⟩
    have e1 : Ex H (upd H lw (.lst [])) := Ex.new hw
    have hw1 : (upd H lw (.lst [])) lw = some (.lst []) := upd_same
    generalize upd H lw (.lst []) = H1 at e1 hw1
    refine ⟨_, rfl, a, _, rfl, .inr ⟨SqT.of (e1 _ _ hS), RT.for_ItvT (fun i σ' H' => Ex H H' ∧ ∃ u4 u5 u6, σ' = [some v, some y, some (.ref a), some (.ref lw), u4, u5, u6] ∧ H' lw = some (.lst (nums (waitM R (Tr.suf (t.size - i) [t])))) ∧ i ≤ t.size)
      ⟨e1, none, none, none, rfl, ?_, Nat.zero_le _⟩ (fun i σ' H' h => SqT.of (h.1 _ _ hS)) ?_ ?_⟩⟩
    · rw [hw1, Nat.sub_zero, Tr.suf_nil.mpr (by rw [Tr.size_one]; exact Nat.le_refl _)]
      rfl
    · rintro i x σ' H2 hi hx ⟨e2, u4, u5, u6, rfl, hw2, _⟩
      rw [hlen] at hi hx
      have hpN : t.size - 1 - i < Tr.sizeF [t] := by rw [Tr.size_one]; omega
      obtain ⟨u, us, hu, hroot⟩ := Tr.suf_cons hpN
      generalize hp : t.size - 1 - i = p' at hpN hu hroot hx
      have e0 : t.size - i = p' + 1 := by omega
      rw [Tr.row_one] at hroot
      have hx' : ((ofN t.row).map V.int)[p']? = some (.int (u.root : Int)) := by rw [List.getElem?_map, ofN_at hroot]; rfl
      rw [hx'] at hx
      cases hx
      have hOu : OkT S u := okTsuf hO hu
      have hsuc : Tr.suf (p' + 1) [t] = u.kids ++ us := by rw [Tr.suf_succ, hu]; rfl
      rw [e0, hsuc] at hw2
      obtain ⟨r, hr1, hr2⟩ := kidsNum hK hOu
      have hk2 := Tr.kids_le u
      have hul : us.length + 1 ≤ t.size := by
        have h1 := woodLen (Tr.suf p' [t])
        have h2 := Tr.rowF_suf p' [t]
        have h3 : Tr.sizeF (Tr.suf p' [t]) ≤ t.size := by
          unfold Tr.sizeF
          rw [h2, List.length_drop, Tr.row_one]
          exact Nat.sub_le _ _
        rw [hu, List.length_cons] at h1
        rw [hu] at h3
        omega
      -- the kids' moods are taken from what waits
      refine (evd_ar (K := K) (M := M) (te := tVar 4) (σ := [some v, some y, some (.ref a), some (.ref lw), some (.int (u.root : Int)), u5, u6]) (i := 0) (k := 0) (j := u.root) rfl (hv.ex e2) (evd_var rfl (.int _)) rfl hr1).use fun vz dz H3 e3 dvz pz => ?_
      subst pz
      cases dvz
      have hw3 := e3 _ _ hw2
      have e23 := e2.trans e3
      refine ⟨r.2, rfl, by omega, by omega, fun A hA => ?_⟩
      have hne : lw ≠ A := ne_of_none hw3 hA
      have hAH : H A = none := fresh_back e23 hA
      have hw4 : (upd H3 A (.lst [])) lw = some (.lst (nums (waitM R (u.kids ++ us)))) := by rw [upd_ne hne]; exact hw3
      have hA4 : (upd H3 A (.lst [])) A = some (.lst []) := upd_same
      have e4 : Ex H (upd H3 A (.lst [])) := e23.trans (Ex.new hA)
      refine lc_it (n := u.kids.length) (by rw [hr2, Int.toNat_natCast]; exact walk_range) (fun j H' => Ex H H' ∧ H' lw = some (.lst (nums (waitM R (u.kids.drop j ++ us)))) ∧ H' A = some (.lst (nums ((u.kids.take j).map (moodT R)))))
        ⟨e4, by rw [List.drop_zero]; exact hw4, hA4⟩ (fun _ _ _ _ => trivial) (fun j x H' H'' hj ⟨e5, hw5, hA5⟩ hyy => ?_) (fun H' ⟨e5, hw5, hA5⟩ => ?_)
      · obtain ⟨rfl, rfl⟩ := hyy
        have hk : u.kids[j]? = some (u.kids[j]'hj) := List.getElem?_eq_getElem _
        generalize u.kids[j]'hj = k at hk
        have hd : u.kids.drop j = k :: u.kids.drop (j + 1) := by
          obtain ⟨h1, h2⟩ := List.getElem?_eq_some_iff.mp hk
          rw [List.drop_eq_getElem_cons h1, h2]
        rw [hd, List.cons_append, waitM_cons, nums_app] at hw5
        have hlast : (nums (waitM R (u.kids.drop (j + 1) ++ us)) ++ nums [moodT R k])[(nums (waitM R (u.kids.drop (j + 1) ++ us)) ++ nums [moodT R k]).length - 1]? = some (.int (moodT R k : Int)) := by
          rw [List.length_append, show (nums [moodT R k]).length = 1 from rfl, Nat.add_sub_cancel, List.getElem?_append_right (Nat.le_refl _), Nat.sub_self]
          rfl
        refine ⟨rfl, iteT (B := Ex H H'' ∧ H'' lw = some (.lst (nums (waitM R (u.kids.drop (j + 1) ++ us)))) ∧ H'' A = some (.lst (nums ((u.kids.take (j + 1)).map (moodT R))))) ?_⟩
        refine ⟨_, rfl, .inl ⟨rfl, _, SqL.of hw5⟩, lw, _, _, rfl, rfl, hw5, hlast, ?_⟩
        refine ⟨_, by rw [upd_ne (Ne.symm hne)]; exact hA5, by rw [nums_len, List.length_map, List.length_take]; exact Nat.lt_of_le_of_lt (show _ ≤ 2 by omega) (by decide), Ex.mut (Ex.mut e5 hw) hAH, ?_, ?_⟩
        · rw [upd_ne hne, upd_same]
          congr 2
          exact List.dropLast_concat
        · rw [upd_same, Tr.take_snoc hk, List.map_append, nums_app]
          rfl
      · rw [List.take_length] at hA5
        rw [List.drop_length, List.nil_append] at hw5
        refine ⟨_, rfl, .inl ⟨rfl, _, SqL.of hw5⟩, _, rfl, _, rfl, _, rfl, M, y, .ref A, S, R, u.root, u.kids.map (moodT R), rfl, hy.ex e5, ⟨A, rfl, SqL.of hA5⟩, gR, hK, hOu.root, by rw [List.length_map]; exact hOu.ark.symm, fun x hx => ?_, fun H6 e6 => ?_⟩
        · obtain ⟨k, hk, rfl⟩ := List.mem_map.mp hx
          exact gR.mood k (hOu.kids k hk)
        · have hw6 := e6 _ _ hw5
          refine ⟨lw, _, _, rfl, rfl, hw6, by rw [nums_len, waitM_len]; exact Nat.lt_of_le_of_lt (show us.length ≤ 1000 by omega) (by decide), ?_⟩
          refine ⟨Ex.mut (e5.trans e6) hw, _, _, _, rfl, ?_, hi⟩
          rw [upd_same, show t.size - (i + 1) = p' by omega, hu, waitM_cons, nums_app, ← moodT_eq]
          rfl
    · rintro σ' H2 ⟨e2, u4, u5, u6, rfl, hw2, _⟩
      rw [hlen, Nat.sub_self] at hw2
      have hw2 : H2 lw = some (.lst [.int (moodT R t : Int)]) := hw2
      exact ⟨_, rfl, 1, rfl, lw, _, _, _, rfl, rfl, SqL.of hw2, rfl, q H2 e2⟩
end
end TH
set_option maxRecDepth 100000
set_option maxHeartbeats 4000000
namespace TH
open PySem L2 Evl
abbrev sLTold : Stmt := top 36
/-! ### what a Reader tells, asked by a law -/
section
variable {K : PySem.W.Frag} {M M' M'' : Addr → Prop} {H H1 H' : Hp} {σ : L2.St} {ta tb te : TE} {E : XK} {CB CR CT p : Addr} {S : List Sg} {R : Pl} {i : Nat}
theorem ReadAt.ins (h : ReadAt K CB CR M H p S R) : ∃ dx pb lt ll, H p = some (.ins CR dx (rflds pb (R.moods : Int) lt ll)) := by
  obtain ⟨dx, pb, lt, ll, h1, _⟩ := h
  exact ⟨dx, pb, lt, ll, h1⟩
theorem evd_rmoods (hs : σ[i]? = some (some (.ref p))) (hR : ReadAt K CB CR M'' H p S R) : EvD K M (tMeth CR "moods" (spRMoods K CB CR) [] E (tVar i) tNil) σ H (.int (R.moods : Int)) := fun H1 e Q q => by
  have h := hR.ex e
  obtain ⟨dx, pb, lt, ll, h1⟩ := h.ins
  exact ⟨_, hs, p, dx, _, rfl, h1, rflds_no _ _ _ _ (by decide +kernel) (by decide +kernel) (by decide +kernel) (by decide +kernel), M'', p, S, R, rfl, h, q _ _ H1 (Ex.refl _) (.int _) rfl⟩
theorem evd_rliked (ok : Ok M H) (hs : σ[i]? = some (some (.ref p))) (hR : ReadAt K CB CR M'' H p S R) : EvD K M (tMeth CR "liked" (spRLiked K CB CR) [] E (tVar i) tNil) σ H (intsD R.liked) := fun H1 e Q q => by
  have h := hR.ex e
  obtain ⟨dx, pb, lt, ll, h1⟩ := h.ins
  exact ⟨_, hs, p, dx, _, rfl, h1, rflds_no _ _ _ _ (by decide +kernel) (by decide +kernel) (by decide +kernel) (by decide +kernel), M'', p, S, R, rfl, h, fun l H2 hl e2 h2 => q _ _ H2 e2 (.lst h2 ((ok.ex e).new hl) (nums_dts _)) rfl⟩
theorem evd_rtable {z : Int} {s : Nat} {tb' : List Nat} (ok : Ok M H) (hs : σ[i]? = some (some (.ref p))) (hR : ReadAt K CB CR M'' H p S R) (hx : EvD K M tb σ H (.int z)) (hz : z = (s : Int)) (ht : R.tables[s]? = some tb') : EvD K M (tMeth CR "table" (spRTable K CB CR) [] E (tVar i) (tCons tb tNil)) σ H (intsD tb') := fun H1 e Q q => by
  have h := hR.ex e
  obtain ⟨dx, pb, lt, ll, h1⟩ := h.ins
  refine ⟨_, hs, p, dx, _, rfl, h1, rflds_no _ _ _ _ (by decide +kernel) (by decide +kernel) (by decide +kernel) (by decide +kernel), hx H1 e _ fun v d H2 e2 dv pd => ?_⟩
  subst pd
  cases dv
  subst hz
  exact ⟨M'', p, S, R, s, tb', rfl, h.ex e2, ht, fun l H3 hl e3 h3 => q _ _ H3 (e2.trans e3) (.lst h3 ((ok.ex (e.trans e2)).new hl) (nums_dts _)) rfl⟩
/-- the mood of a tree, whether it is liked -/
theorem evd_rmood {t : Tr} (hs : σ[i]? = some (some (.ref p))) (hR : ReadAt K CB CR MF H p S R) (gR : GoodR S R) (hK : KidsOk S) (hx : EvD K MF tb σ H (rowD t)) (hO : OkT S t) (h40 : t.size ≤ 40) : EvD K M (tMeth CR "mood" (spRMood K CB CR CT) [] E (tVar i) (tCons tb tNil)) σ H (.int (moodT R t : Int)) := fun H1 e Q q => by
  have h := hR.ex e
  obtain ⟨dx, pb, lt, ll, h1⟩ := h.ins
  refine ⟨_, hs, p, dx, _, rfl, h1, rflds_no _ _ _ _ (by decide +kernel) (by decide +kernel) (by decide +kernel) (by decide +kernel), hx H1 e _ fun v d H2 e2 dv pd => ?_⟩
  subst pd
  refine ⟨p, v, S, R, ofN t.row, rfl, h.ex e2, gR, hK, dv, fun hb => ?_, fun u hu eu hu40 H3 e3 => ?_⟩
  · rw [treeB_row hO h40] at hb
    cases hb
  · have : t = u := row_inj hO hu eu
    subst this
    exact q _ _ H3 (e2.trans e3) (.int _) rfl
theorem evd_rlikes {t : Tr} (hs : σ[i]? = some (some (.ref p))) (hR : ReadAt K CB CR MF H p S R) (gR : GoodR S R) (hK : KidsOk S) (hx : EvD K MF tb σ H (rowD t)) (hO : OkT S t) (h40 : t.size ≤ 40) : EvD K M (tMeth CR "likes" (spRLikes K CB CR CT) [] E (tVar i) (tCons tb tNil)) σ H (.bool (decide (moodT R t ∈ R.liked))) := fun H1 e Q q => by
  have h := hR.ex e
  obtain ⟨dx, pb, lt, ll, h1⟩ := h.ins
  refine ⟨_, hs, p, dx, _, rfl, h1, rflds_no _ _ _ _ (by decide +kernel) (by decide +kernel) (by decide +kernel) (by decide +kernel), hx H1 e _ fun v d H2 e2 dv pd => ?_⟩
  subst pd
  refine ⟨p, v, S, R, ofN t.row, rfl, h.ex e2, gR, hK, dv, fun hb => ?_, fun u hu eu hu40 H3 e3 => ?_⟩
  · rw [treeB_row hO h40] at hb
    cases hb
  · have : t = u := row_inj hO hu eu
    subst this
    exact q _ _ H3 (e2.trans e3) (.bl _) rfl
end
structure GlobI (mg : Str → Option Value) : Prop where
  isinstance : mg "isinstance" = none
  bool : mg "bool" = none
section
variable {K : PySem.W.Frag} {M M' : Addr → Prop} {H H1 H' : Hp} {σ : L2.St} {ta tb te : TE}
theorem evd_neB {i j : Bool} (ha : EvD K M ta σ H (.bool i)) (hb : EvD K M tb σ H (.bool j)) : EvD K M (tOp rNe ta tb) σ H (.bool (!decide (i = j))) :=
  evp_op ha hb fun x y a b H1 e dx dy px py Q q => by
    subst px py
    cases dx
    cases dy
    refine ⟨rfl, q _ _ H1 (Ex.refl _) (.bl _) ?_⟩
    simp
theorem evt_or2 {t u : TT} {c : Bool} (h1 : EvT t σ H false) (h2 : EvT u σ H c) : EvT (tOr t u) σ H c := fun H1 e Q q =>
  h1 H1 e _ fun H2 e2 => iteF (h2 H2 (e.trans e2) Q fun H3 e3 => q H3 (e2.trans e3))
theorem evt_isInt {i : Nat} {z : Int} {t2 : TE} (hs : σ[i]? = some (some (.int z))) (h2 : t2 = tC (.ty "bool")) : EvT (tB (tCB (rIsi K) (tCons (tVar i) (tCons t2 tNil)))) σ H false := fun H1 e Q q => by
  subst h2
  exact ⟨_, hs, .int _, .ty "bool", .type "int", .type "bool", false, rfl, .ty _, .base (.int _), kit_ty (by decide +kernel), _, rfl, q H1 (Ex.refl _)⟩
theorem evt_isBool {i : Nat} {z : Bool} {t2 : TE} (hs : σ[i]? = some (some (.bl z))) (h2 : t2 = tC (.ty "bool")) : EvT (tB (tCB (rIsi K) (tCons (tVar i) (tCons t2 tNil)))) σ H true := fun H1 e Q q => by
  subst h2
  exact ⟨_, hs, .bl _, .ty "bool", .type "bool", .type "bool", true, rfl, .ty _, .base (.bl _), kit_ty (by decide +kernel), _, rfl, q H1 (Ex.refl _)⟩
theorem evd_lmood {tr : TE} {E : XK} {S : List Sg} {R : Pl} {t : Tr} (h1 : EvD K M ta σ H (.list (S.map sgD))) (h2 : EvD K M tb σ H (plD R)) (h3 : EvD K MF tr σ H (rowD t)) (hK : KidsOk S) (gR : GoodR S R) (hO : OkT S t) (ht : t.size ≤ 1000) : EvD K M' (tCall (spLMood K) [] E (tCons ta (tCons tb (tCons tr tNil)))) σ H (.int (moodT R t : Int)) := fun H1 e Q q =>
  h1 H1 e _ fun v1 d1 H2 e2 dv1 p1 => h2 H2 (e.trans e2) _ fun v2 d2 H3 e3 dv2 p2 => h3 H3 ((e.trans e2).trans e3) _ fun v3 d3 H4 e4 dv3 p3 => by
    subst p1 p2 p3
    exact ⟨M, v1, v2, v3, S, R, t, rfl, dv1.ex (e3.trans e4), hK, dv2.ex e4, gR, dv3, hO, ht, fun H5 e5 => q _ _ H5 (((e2.trans e3).trans e4).trans e5) (.int _) rfl⟩
end
def spLTold (K : PySem.W.Frag) (CB CR : Addr) : Sp := fun vs H Q _ => ∃ (M : Addr → Prop) (p : Addr) (v : V) (S : List Sg) (R : Pl), vs = [.ref p, v] ∧ ReadAt K CB CR M H p S R ∧ GoodR S R ∧ Dt K M H v (.list (S.map sgD)) ∧ S.length ≤ 100 ∧
  ∀ x H', Ex H H' → NewD K H H' x (plD R) → Q x H'
section
variable {P : Program} {w : World} {K : PySem.W.Frag} {mg : Str → Option Value} {base : Heap} {CB CR CT : Addr}
abbrev nLTold : List Str := ["_law_reader_here", "_law_signs_here", "_law_sign"]
theorem scLTold : FnScope nLTold ["_law_reader_here", "_law_signs_here"] (defScope sLTold) := ⟨rfl, rfl, rfl, by decide +kernel, rfl, by decide +kernel, by decide +kernel⟩
theorem ok_ltold {f : Addr} {fd : FuncData} (F : Fun K "_law_told" "_law_told" sLTold f fd) (G : Glob mg) (T : ReadT K mg CR) (B1 : OneM P w K mg base CR "moods" 1 ["self"] (spRMoods K CB CR)) (B2 : OneM P w K mg base CR "table" 1 ["self", "sign"] (spRTable K CB CR))
    (B3 : OneM P w K mg base CR "liked" 1 ["self"] (spRLiked K CB CR)) : FnOk P w K mg base CX0 2 f fd ["_law_reader_here", "_law_signs_here"] (spLTold K CB CR) := by
  obtain ⟨f1, d1, m1, g1, b1⟩ := B1
  obtain ⟨f2, d2, m2, g2, b2⟩ := B2
  obtain ⟨f3, d3, m3, g3, b3⟩ := B3
  refine F.ok scLTold (fun vs H Q E h => ?_) (fun cdv A outer s0 H vs Q E hr h => ?_)
  · obtain ⟨M, p, v, S, R, rfl, _⟩ := h
    rfl
  · obtain ⟨M, p, v, S, R, rfl, hR, gR, hv, hS, q⟩ := h
    refine ⟨_, pss_one (ps_ret (pe_tup (pa_cons (pe_meth0 (pv 0) T.cl m1 g1 hr b1 .nil pass0) (pa_cons (pe_lc (own := [("_law_sign", 2)]) (g := gName 2) (tt := tYes) rfl scLTold.nd (pi_range1 rfl G.range (pa_cons (pe_callB call_len_seq (by rfl) G.len PySem.boot_len (pa_cons (pv 1) pa_nil)) pa_nil))
        (blkOk_by (N := nLTold) (sc := defScope sLTold) (by decide +kernel)) (fun _ _ _ _ _ => pg_name (i := 2) scLTold.nd rfl (.inl rfl)) (fun _ _ _ _ _ => pts_nil)
        (fun _ _ _ _ _ => pe_meth (pv 0) T.cl m2 g2 hr b2 .nil pass0 (pa_cons (pv 2) pa_nil))) (pa_cons (pe_meth0 (pv 0) T.cl m3 g3 hr b3 .nil pass0) pa_nil))))), ?_⟩
    have hTl : R.tables.length = S.length := gR.len
    have e2 : EvD K (MO H) (tLc (iRng1 (tCons (tCB (fun xs H Q => ∃ p ys, xs = [.ref p] ∧ (SqL K H p ys ∨ SqT K H p ys) ∧ Q (.int ys.length) H) (tCons (tVar 1) tNil)) tNil)) (gName 2) tYes (tMeth CR "table" (spRTable K CB CR) [] E0 (tVar 0) (tCons (tVar 2) tNil)) [2]) (start nLTold [.ref p, v]) H (.list (R.tables.map intsD)) := by
      refine ((evn_lcRI (K := K) (M := MO H) (n := S.length) (fun i es => es = (R.tables.take i).map intsD) okO ?_ (by omega) rfl (fun M' i es H' hm ok' hi hI e Qg qg => ?_)).data okO).mono fun d hd => ?_
      · have h := evd_lenL (K := K) (M := M) (σ := start nLTold [.ref p, v]) (ta := tCons (tVar 1) tNil) (H := H) (eva_cons (evd_var (i := 1) rfl hv) eva_nil)
        rw [List.length_map] at h
        exact fun H1 e Q q => h H1 e _ fun x d H2 e2 dx pd => by
          subst pd
          cases dx
          exact q _ _ H2 e2 (.cons (.int _) .nil) rfl
      · have hti : R.tables[i]? = some (R.tables[i]'(by omega)) := List.getElem?_eq_getElem _
        refine qg _ H' (Ex.refl _) ⟨rfl, fun H5 e5 Q q => q true H5 (Ex.refl _) (fun _ => ?_) (fun h => nomatch h)⟩
        refine (evd_rtable (i := 0) (s := i) (ok'.ex e5) rfl (hR.ex (e.trans e5)) (evd_var (i := 2) rfl (.int (i : Int))) rfl hti).mono fun d hd => ?_
        rw [hI, hd, List.take_add_one, hti, List.map_append]
        rfl
      · obtain ⟨ds, rfl, rfl⟩ := hd
        rw [← hTl, List.take_length]
    refine s_retP (K := K) (M := MO H) (evd_tup (eva_cons (evd_rmoods (i := 0) rfl hR) (eva_cons e2 (eva_cons (evd_rliked (i := 0) okO rfl hR) eva_nil))) (by show 3 ≤ sizeLine; decide)) fun x d H1 e1 dx pd => ?_
    subst pd
    exact q x H1 e1 (newD_of dx)
end
end TH
set_option maxRecDepth 100000
set_option maxHeartbeats 4000000
namespace TH
open PySem L2 Evl
abbrev sLReads : Stmt := top 37
def spLReads (K : PySem.W.Frag) (CB CR : Addr) : Sp := fun vs H Q _ => ∃ (M : Addr → Prop) (p : Addr) (v y z : V) (S : List Sg) (R : Pl) (ts : List Tr), vs = [.ref p, v, y, z] ∧ ReadAt K CB CR MF H p S R ∧ GoodR S R ∧ KidsOk S ∧ Dt K M H v (.list (S.map sgD)) ∧ Dt K M H y (plD R) ∧ Dt K M H z (.list (ts.map rowD)) ∧
  (∀ t ∈ ts, OkT S t ∧ t.size ≤ 40) ∧ ∀ H', Ex H H' → Q (.bl true) H'
section
variable {P : Program} {w : World} {K : PySem.W.Frag} {mg : Str → Option Value} {base : Heap} {CB CR CT : Addr}
abbrev nLReads : List Str := ["_law_reader_here", "_law_signs_here", "_law_plain", "_law_rows", "_law_row_here", "_law_mood_here", "_law_liked"]
theorem scLReads : FnScope nLReads ["_law_reader_here", "_law_signs_here", "_law_plain", "_law_rows"] (defScope sLReads) := ⟨rfl, rfl, rfl, by decide +kernel, rfl, by decide +kernel, by decide +kernel⟩
theorem ok_lreads {f : Addr} {fd : FuncData} (F : Fun K "_law_reads" "_law_reads" sLReads f fd) (GI : GlobI mg) (T : ReadT K mg CR) (B1 : OneMX P w K mg base CR "mood" 5 ["self", "tree"] (spRMood K CB CR CT)) (B2 : OneMX P w K mg base CR "likes" 6 ["self", "tree"] (spRLikes K CB CR CT))
    (B3 : OneF P w K mg base "_law_mood" 2 ["_law_signs_here", "_law_plain", "_law_row_here"] (spLMood K)) : FnOk P w K mg base CX0 7 f fd ["_law_reader_here", "_law_signs_here", "_law_plain", "_law_rows"] (spLReads K CB CR) := by
  obtain ⟨f1, d1, m1, g1, b1⟩ := B1
  obtain ⟨f2, d2, m2, g2, b2⟩ := B2
  obtain ⟨f3, d3, m3, k3, g3, b3⟩ := B3
  refine F.ok scLReads (fun vs H Q E h => ?_) (fun cdv A outer s0 H vs Q E hr h => ?_)
  · obtain ⟨M, p, v, y, z, S, R, ts, rfl, _⟩ := h
    rfl
  · obtain ⟨M, p, v, y, z, S, R, ts, rfl, hR, gR, hK, hv, hy, hz, hts, q⟩ := h
    have hr2 : Room 2 _ := hr.mono (show 2 ≤ 6 by decide)
    have hr5 : Room 5 _ := hr.mono (show 5 ≤ 6 by decide)
    refine ⟨_, pss_cons (ps_for PassesOwn.never rfl (pi_list (pv 3)) (pg_name (i := 4) scLReads.nd rfl (.inl rfl))
        (pss_cons (ps_set (i := 5) scLReads.nd rfl (.inl rfl) (pe_meth (pv 0) T.cl m1 g1 hr5 b1 .nil passL (pa_cons (pv 4) pa_nil)))
        (pss_cons (ps_if (PW.pt (pw_or (pt_val (pe_callB call_isi (by rfl) GI.isinstance (by decide +kernel) (pa_cons (pv 5) (pa_cons (pe_bltn (v := .ty "bool") (by rfl) GI.bool (by decide +kernel) rfl) pa_nil))))
            (pw_or1 (pt_cmpR op_ne (pv 5) (pe_call g3 hr2 rfl m3 k3 b3 .nil pass0 (pa_cons (pv 1) (pa_cons (pv 2) (pa_cons (pv 4) pa_nil)))) (nomark _))))) (pss_one (ps_ret pe_bl)) pss_nil)
        (pss_cons (ps_set (i := 6) scLReads.nd rfl (.inl rfl) (pe_meth (pv 0) T.cl m2 g2 hr b2 .nil passL (pa_cons (pv 4) pa_nil)))
        (pss_one (ps_if (PW.pt (pw_or (pt_not (pt_val (pe_callB call_isi (by rfl) GI.isinstance (by decide +kernel) (pa_cons (pv 6) (pa_cons (pe_bltn (v := .ty "bool") (by rfl) GI.bool (by decide +kernel) rfl) pa_nil)))))
            (pw_or1 (pt_cmpR op_ne (pv 6) (pe_cmpR op_in_seq (pv 5) (pe_ix ix_tup (pv 2) pe_int (fun _ _ => rfl)) (by rfl)) (nomark _))))) (pss_one (ps_ret pe_bl)) pss_nil))))))
      (pss_one (ps_ret pe_bl)), ?_⟩
    have hz0 := hz
    cases hz with
    | lst h1 h2 h3 =>
    rename_i a xs
    refine q_forLn (K := K) (a := a) (xs := xs) (ev_var (i := 3) rfl) (sq_of h1)
      (fun i σ' H' => Ex H H' ∧ ∃ u4 u5 u6, σ' = [some (.ref p), some v, some y, some (.ref a), u4, u5, u6])
      (fun H1 e1 => ⟨e1, none, none, none, rfl⟩) (fun i σ' H' _ h => sq_of (h.1 _ _ h1)) ?_ ?_
    · rintro i x σ' H1 hx ⟨e, u4, u5, u6, rfl⟩
      obtain ⟨d, hd, dx⟩ := h3.get hx
      rw [List.getElem?_map] at hd
      cases ht : ts[i]? with
      | none =>
        rw [ht] at hd
        cases hd
      | some t =>
      rw [ht] at hd
      cases hd
      obtain ⟨hO, h40⟩ := hts t (List.mem_of_getElem? ht)
      have dr : ∀ {H'}, Ex H H' → Dt K MF H' x (rowD t) := fun e => dt_any (dx.ex e)
      refine q_asgP (K := K) (M := MF) (evd_rmood (i := 0) rfl (hR.ex e) gR hK (evd_var (i := 4) rfl (dr e)) hO h40) fun v5 d5 H2 e2 dv5 p5 => ?_
      subst p5
      cases dv5
      have e12 := e.trans e2
      refine q_when (b := false) (evt_or2 (evt_isInt (i := 5) rfl rfl) (et_is (evt_test (K := K) (M := M) (evd_neI (evd_var (i := 5) rfl (.int _)) (evd_lmood (evd_var (i := 1) rfl (hv.ex e12)) (evd_var (i := 2) rfl (hy.ex e12)) (evd_var (i := 4) rfl (dr e12)) hK gR hO (by omega)))) (by rw [decide_eq_true rfl]; rfl))) (fun hb H3 e3 => nomatch hb) (fun hb H3 e3 => ?_)
      have e13 := e12.trans e3
      refine q_asgP (K := K) (M := MF) (evd_rlikes (i := 0) rfl (hR.ex e13) gR hK (evd_var (i := 4) rfl (dr e13)) hO h40) fun v6 d6 H4 e4 dv6 p6 => ?_
      subst p6
      cases dv6
      have e14 := e13.trans e4
      refine s_when (b := false) (evt_or2 (evt_not (evt_isBool (i := 6) rfl rfl)) (et_is (evt_test (K := K) (M := M) (evd_neB (j := decide (moodT R t ∈ R.liked)) (evd_var (i := 6) rfl (.bl _)) ?_)) (by rw [decide_eq_true rfl]; rfl))) (fun hb H5 e5 => nomatch hb) (fun hb H5 e5 => ⟨e14.trans e5, _, _, _, rfl⟩)
      refine (evd_inI (K := K) (M := M) (z := (moodT R t : Int)) (ys := ofN R.liked) (evd_var (i := 5) rfl (.int _)) (evd_ixT (j := 2) (ds := [.int (R.moods : Int), .list (R.tables.map intsD), intsD R.liked]) (evd_var (i := 2) (d := plD R) rfl (hy.ex e14)) evd_int rfl rfl)).mono fun d h => ?_
      rw [h]
      congr 1
      have : ((moodT R t : Int) ∈ ofN R.liked) ↔ moodT R t ∈ R.liked := by
        unfold ofN
        rw [List.mem_map]
        constructor
        · rintro ⟨x, hx, e⟩
          have : x = moodT R t := by omega
          rw [← this]
          exact hx
        · intro h
          exact ⟨_, h, rfl⟩
      by_cases h : moodT R t ∈ R.liked
      · rw [decide_eq_true h, decide_eq_true (this.mpr h)]
      · rw [decide_eq_false h, decide_eq_false (fun z => h (this.mp z))]
    · rintro σ' H1 ⟨e, u4, u5, u6, rfl⟩
      exact q H1 e
end
end TH
set_option maxRecDepth 100000
set_option maxHeartbeats 4000000
namespace TH
open PySem L2 Evl
section
variable {P : Program} {w : World} {K : PySem.W.Frag} {mg : Str → Option Value} {base : Heap}
theorem scLike : FnScope ["self", "book"] ["self", "book"] (defScope sLike) := ⟨rfl, rfl, rfl, by decide +kernel, rfl, by decide +kernel, by decide +kernel⟩
theorem ok_like {f C : Addr} {fd : FuncData} (F : Fun K "is_like" "Book.is_like" sLike f fd) (T : BookT K mg C) : FnOk P w K mg base CX0 1 f fd ["self", "book"] (spLike C) := by
  refine F.ok scLike (fun vs H Q E h => ?_) (fun cdv A outer s H vs Q E hr h => ?_)
  · obtain ⟨M, M', p, p', S, S', rfl, _⟩ := h
    rfl
  · obtain ⟨M, M', p, p', S, S', rfl, ⟨dx, l1, l2, h1, h2, h3, h4, h5⟩, ⟨dy, m1, m2, g1, g2, g3, g4, g5⟩, n1, n2, q⟩ := h
    refine ⟨_, pss_one (ps_ret (pe_and (pe_cmpR (op_eqD (hu64 hr)) (pe_fld (pv 0) rfl) (pe_fld (pv 1) rfl) (nomark _)) (pe_one (pe_cmpR (op_eqD (hu64 hr)) (pe_fld (pv 0) rfl) (pe_fld (pv 1) rfl) (nomark _))))), ?_⟩
    have e1 : (S.map fun q => V.str q.1) = (S.map (·.1)).map V.str := by rw [List.map_map]; rfl
    have e2 : (S'.map fun q => V.str q.1) = (S'.map (·.1)).map V.str := by rw [List.map_map]; rfl
    have e3 : (S.map fun q => V.int q.2) = (S.map (·.2)).map V.int := by rw [List.map_map]; rfl
    have e4 : (S'.map fun q => V.int q.2) = (S'.map (·.2)).map V.int := by rw [List.map_map]; rfl
    have o1 : ∀ z ∈ S.map (·.1), PyData.strOk z = true := fun z hz => by
      obtain ⟨q, hq, rfl⟩ := List.mem_map.mp hz
      exact n1 q hq
    have o2 : ∀ z ∈ S'.map (·.1), PyData.strOk z = true := fun z hz => by
      obtain ⟨q, hq, rfl⟩ := List.mem_map.mp hz
      exact n2 q hq
    rw [e1] at h2
    rw [e2] at g2
    rw [e3] at h4
    rw [e4] at g4
    refine ⟨_, rfl, p, C, dx, _, _, rfl, h1, T.cl, T.n1, flds_names _ _, _, rfl, p', C, dy, _, _, rfl, g1, T.cl, T.n1, flds_names _ _, _, _, .lst (SqL.of h2) (dpAll_strs _), .lst (SqL.of g2) (dpAll_strs _), shaped_strs _ o1, shaped_strs _ o2, _, rfl, ?_⟩
    rw [PyData.eqv, eqv_strs]
    by_cases c : S.map (·.1) = S'.map (·.1)
    · rw [decide_eq_true c] at q ⊢
      refine iteT ?_
      refine ⟨_, rfl, p, C, dx, _, _, rfl, h1, T.cl, T.n2, flds_kids _ _, _, rfl, p', C, dy, _, _, rfl, g1, T.cl, T.n2, flds_kids _ _, _, _, .lst (SqL.of h4) (dpAll_ints _), .lst (SqL.of g4) (dpAll_ints _), shaped_ints _, shaped_ints _, ?_⟩
      rw [PyData.eqv, eqv_ints]
      exact q
    · rw [decide_eq_false c] at q ⊢
      exact iteF q
end
end TH
set_option maxRecDepth 100000
set_option maxHeartbeats 4000000
namespace TH
open PySem L2 Evl
/-! ### heaps in which some lists have changed -/
structure ChM (M : Addr → Prop) (H H' : Hp) : Prop where
  keep : ∀ b o, H b = some o → ¬ M b → H' b = some o
  lst : ∀ b, M b → ∃ xs, H b = some (.lst xs)
section
variable {K : PySem.W.Frag} {M M' : Addr → Prop} {H H1 H' : Hp} {C CB CR p : Addr} {S : List Sg} {R : Pl}
theorem ChM.at (c : ChM M H H') {a : Addr} {o : HO} (h : H a = some o) (n : ∀ xs, o ≠ .lst xs) : H' a = some o := c.keep a o h fun m => by
  obtain ⟨xs, hx⟩ := c.lst a m
  rw [h] at hx
  exact n xs (Option.some.inj hx)
theorem Dt.ch {v : V} {d : PyData} (h : Dt K M H v d) (c : ChM M H H') : Dt K M H' v d := Dt.move (fun a xs h n => ⟨c.keep a _ h n, n⟩) (fun a xs h => c.at h fun _ z => by cases z) d v h
theorem BookAt.ch (h : BookAt C M H p S) (c : ChM M H H') : BookAt C M H' p S := by
  obtain ⟨dx, l1, l2, h1, h2, h3, h4, h5⟩ := h
  exact ⟨dx, l1, l2, c.at h1 (fun _ z => by cases z), c.keep _ _ h2 h3, h3, c.keep _ _ h4 h5, h5⟩
theorem ReadAt.ch (h : ReadAt K CB CR M H p S R) (c : ChM M H H') : ReadAt K CB CR M H' p S R := by
  obtain ⟨dx, pb, lt, ll, h1, h2, h3, h4⟩ := h
  exact ⟨dx, pb, lt, ll, c.at h1 (fun _ z => by cases z), h2.ch c, h3.ch c, h4.ch c⟩
/-- what stands already is not among what is new -/
theorem Dt.avoid {v : V} {d : PyData} (h : Dt K M H v d) (n : ∀ a, M' a → M a ∨ H a = none) : Dt K M' H v d := Dt.move (fun a xs h k => ⟨h, fun z => (n a z).elim k fun e => by rw [e] at h; cases h⟩) (fun a xs h => h) d v h
theorem BookAt.avoid (h : BookAt C M H p S) (n : ∀ a, M' a → M a ∨ H a = none) : BookAt C M' H p S := by
  obtain ⟨dx, l1, l2, h1, h2, h3, h4, h5⟩ := h
  refine ⟨dx, l1, l2, h1, h2, fun z => (n _ z).elim h3 fun e => ?_, h4, fun z => (n _ z).elim h5 fun e => ?_⟩
  · rw [e] at h2
    cases h2
  · rw [e] at h4
    cases h4
theorem ReadAt.avoid (h : ReadAt K CB CR M H p S R) (n : ∀ a, M' a → M a ∨ H a = none) : ReadAt K CB CR M' H p S R := by
  obtain ⟨dx, pb, lt, ll, h1, h2, h3, h4⟩ := h
  exact ⟨dx, pb, lt, ll, h1, h2.avoid n, h3.avoid n, h4.avoid n⟩
end
/-! ### a good reader is made -/
theorem tabs_enc (ts : List (List Nat)) : (ts.map ofN).map listI = ts.map intsD := by
  rw [List.map_map]
  rfl
theorem lik_rise (m : Nat) : ∀ (r : List Nat) (b : Int), (∀ x ∈ r, b < (x : Int)) → r.Pairwise (· < ·) → (∀ x ∈ r, x < m) → likB (m : Int) b (ofN r) = true
  | [], _, _, _, _ => rfl
  | x :: r, b, h0, h1, h2 => by
    show ((decide (b < (x : Int)) && decide ((x : Int) < (m : Int))) && likB (m : Int) (x : Int) (ofN r)) = true
    obtain ⟨h3, h4⟩ := List.pairwise_cons.mp h1
    rw [decide_eq_true (h0 x List.mem_cons_self), decide_eq_true (show (x : Int) < (m : Int) by have := h2 x List.mem_cons_self; omega), lik_rise m r (x : Int) (fun y hy => by have := h3 y hy; omega) h4 fun y hy => h2 y (List.mem_cons_of_mem _ hy)]
    rfl
theorem rok_wf {S : List Sg} {R : Pl} (g : Wf S R) (h6 : R.moods ≤ 6) : rokB S (R.moods : Int) (R.tables.map ofN) (ofN R.liked) = true := by
  have h1 := g.m1
  unfold rokB
  rw [decide_eq_true (show (1 : Int) ≤ (R.moods : Int) by omega), decide_eq_true (show (R.moods : Int) ≤ 6 by omega), Int.toNat_natCast, lik_rise R.moods R.liked (-1) (fun x _ => by omega) g.lik g.likm]
  have ht : tabsB S R.moods (R.tables.map ofN) = true := by
    unfold tabsB
    rw [List.length_map, g.len, decide_eq_true rfl, Bool.true_and, List.all_eq_true]
    rintro ⟨tb, i⟩ hp
    have hi := List.mem_zipIdx_iff_getElem?.mp hp
    have hi : (R.tables.map ofN)[i]? = some tb := hi
    rw [List.getElem?_map] at hi
    cases ht : R.tables[i]? with
    | none =>
      rw [ht] at hi
      cases hi
    | some t =>
    rw [ht] at hi
    cases hi
    obtain ⟨h1, h2⟩ := g.tab i t ht
    show tabB R.moods (ks S i) (ofN t) = true
    unfold tabB
    rw [ofN_len, h1, decide_eq_true rfl, Bool.true_and, List.all_eq_true]
    intro x hx
    unfold ofN at hx
    obtain ⟨y, hy, rfl⟩ := List.mem_map.mp hx
    have := h2 y hy
    rw [decide_eq_true (by omega), decide_eq_true (by omega)]
    rfl
  rw [ht]
  rfl
section
variable {K : PySem.W.Frag} {M M' Mb : Addr → Prop} {H H1 H' : Hp} {σ : L2.St} {tb tm tt tl te ts tx : TE} {ta : TA} {E : XK} {C CB CR CN pb b : Addr} {S : List Sg} {m : Int} {tabs : List (List Int)} {ls : List Int} {Q : VK}
theorem make_read {R : Pl} (ok : Ok M H) (hb : Ev tb σ H (.ref pb)) (hB : BookAt CB Mb H pb S) (hK : KidsOk S) (hm : EvD K M tm σ H (.int (R.moods : Int))) (ht : EvD K M tt σ H (.list (R.tables.map intsD))) (hl : EvD K M tl σ H (intsD R.liked)) (g : Wf S R) (h6 : R.moods ≤ 6) (l1 : S.length ≤ 100)
    (q : ∀ x H1 H', Ex H H1 → Ex H1 H' → H1 x = none → (∀ M', Ok M' H1 → BookAt CB M' H1 pb S → ReadAt K CB CR M' H' x S R) → Q (.ref x) H') : tMake CR (spRInit K CB CR CN) [] E (tCons tb (tCons tm (tCons tt (tCons tl tNil)))) σ H Q := by
  refine hb H (Ex.refl H) _ fun Ha ea => hm Ha ea _ fun vm dm Hb eb dvm pm => ht Hb (ea.trans eb) _ fun vt dt Hc ec dvt pt => hl Hc ((ea.trans eb).trans ec) _ fun vl dl Hd ed dvl pl x dx hx hdx hne => ?_
  subst pm pt pl
  cases dvm
  have e1 : Ex H Hd := (((ea.trans eb).trans ec).trans ed)
  have e2 : Ex Hd (upd (upd Hd dx (.own x)) x (.ins CR dx [])) := made_ex hx hdx hne
  have e12 := e1.trans e2
  have hA : Args K M (upd (upd Hd dx (.own x)) x (.ins CR dx [])) vt vl (R.tables.map ofN) (ofN R.liked) := by
    refine ⟨by rw [tabs_enc]; exact dvt.ex (ed.trans e2), dvl.ex e2, by rw [List.length_map, g.len]; omega, fun tb htb => ?_⟩
    obtain ⟨t, ht, rfl⟩ := List.mem_map.mp htb
    obtain ⟨i, hi⟩ := List.mem_iff_getElem?.mp ht
    obtain ⟨h1, _⟩ := g.tab i t hi
    rw [ofN_len, h1]
    exact Nat.le_trans (mpow h6 (ks_le hK i)) (by decide)
  refine ⟨M, Mb, x, pb, dx, vt, vl, S, (R.moods : Int), R.tables.map ofN, ofN R.liked, rfl, upd_same, hK, ok.ex e12, hB.ex e12, hA, fun _ H' hk => ⟨rfl, ?_⟩, fun hf => by rw [rok_wf g h6] at hf; cases hf⟩
  obtain ⟨dx', lt, ll, k1, k2, k3, k4⟩ := hk
  have e3 : Ex Hd H' := fun b o hb => k4 b o (e2 b o hb) (ne_of_none hb hx)
  refine q x Hd H' e1 e3 hx fun M' ok' hB' => ⟨dx', pb, lt, ll, k1, hB'.ex e3, ?_, ?_⟩
  · have := (k2.from fun b o h => ⟨o, e2 b o h⟩) M' ok'
    rw [tabs_enc] at this
    exact this
  · exact (k3.from fun b o h => ⟨o, e2 b o h⟩) M' ok'
/-- draws -/
theorem evp_lreader {most : Nat} (ok : Ok M H) (hb : Ev tb σ H (.ref b)) (hbox : H b = some (Box b)) (hs : EvD K MF ts σ H (.list (S.map sgD))) (hm : EvD K MF tm σ H (.int (most : Int))) (hK : KidsOk S) (hS : S.length ≤ 100) (h1 : 1 ≤ most) (h6 : most ≤ 6) :
    EvP K M (tCall (spLReader K) [] E (tCons tb (tCons ts (tCons tm tNil)))) σ H (fun d => ∃ R, d = plD R ∧ GoodR S R ∧ R.moods ≤ most) := fun H1 e Q q =>
  hb H1 e _ fun H2 e2 => hs H2 (e.trans e2) _ fun v d H3 e3 dv pd => hm H3 ((e.trans e2).trans e3) _ fun vm dm H4 e4 dvm pm => by
    subst pd pm
    cases dvm
    have e04 := ((e.trans e2).trans e3).trans e4
    exact ⟨b, v, S, most, rfl, e04 _ _ hbox, dv.ex e4, hK, hS, h1, h6, fun x R H5 e5 gR hR nd => q x _ H5 (((e2.trans e3).trans e4).trans e5) (nd M (ok.ex e04)) ⟨R, rfl, gR, hR⟩⟩
theorem evp_lrow {mx : Nat} (ok : Ok M H) (hb : Ev tb σ H (.ref b)) (hx : H b = some (Box b)) (hv : EvD K M ts σ H (.list (S.map sgD))) (g : Good S) (hm : EvP K M tm σ H (fun d => ∃ m : Nat, d = .int (m : Int) ∧ 1 ≤ m ∧ m ≤ mx)) (hmx : mx ≤ 1000) :
    EvP K M (tCall (spLRow K) [] E (tCons tb (tCons ts (tCons tm tNil)))) σ H (fun d => ∃ t, d = rowD t ∧ OkT S t ∧ t.size ≤ mx) := fun H1 e Q q =>
  hb H1 e _ fun H2 e2 => hv H2 (e.trans e2) _ fun v d H3 e3 dv pd => hm H3 ((e.trans e2).trans e3) _ fun vm dm H4 e4 dvm pm => by
    subst pd
    obtain ⟨m, rfl, m1, m2⟩ := pm
    cases dvm
    have e04 := ((e.trans e2).trans e3).trans e4
    exact ⟨M, b, v, S, m, rfl, ok.ex e04, e04 _ _ hx, dv.ex e4, g, m1, by omega, fun u t H5 e5 hO hs du => q u _ H5 (((e2.trans e3).trans e4).trans e5) (dt_any du) ⟨t, rfl, hO, by omega⟩⟩
/-- one of some numbers -/
theorem evp_pick {ns : List Int} {n : Int} (hl : EvD K M tl σ H (.list (ns.map PyData.int))) (hb : Ev tb σ H (.ref b)) (hx : H b = some (Box b)) (hn : EvD K M tm σ H (.int n)) (en : n = (ns.length : Int)) (n0 : 0 < ns.length) (n1 : ns.length ≤ 1000) :
    EvP K M (tOp (rIxL K) tl (tCall spTake [] E (tCons tb (tCons tm tNil)))) σ H (fun d => ∃ z, d = .int z ∧ z ∈ ns) :=
  evp_op hl (evp_take hb hx hn (by omega) (Nat.lt_of_le_of_lt (show n.natAbs ≤ 1000 by omega) (by decide))) fun x y a dd H7 e7 dx dy px py Q q => by
    obtain ⟨k, rfl, k0, k1⟩ := py
    subst px
    cases dy
    cases dx with
    | lst w1 w2 w3 =>
    have ew := Dts.ints ns w3
    subst ew
    obtain ⟨j, rfl⟩ := Int.eq_ofNat_of_zero_le k0
    have hj : ns[j]? = some (ns[j]'(by omega)) := List.getElem?_eq_getElem _
    exact ⟨_, _, _, _, rfl, rfl, sq_of w1, atI_nat (by rw [List.getElem?_map, hj]; rfl), q _ _ H7 (Ex.refl _) (.int _) ⟨_, rfl, List.mem_of_getElem? hj⟩⟩
theorem flat_pl (R : Pl) : Flat 3 (plD R) := flat_tup fun d hd => by
  rcases List.mem_cons.mp hd with rfl | hd
  · exact ⟨rfl, Nat.zero_le _⟩
  · rcases List.mem_cons.mp hd with rfl | hd
    · exact flat_list fun d hd => by
        obtain ⟨t, _, rfl⟩ := List.mem_map.mp hd
        exact flat_intsD t
    · rw [List.mem_singleton.mp hd]
      exact ⟨(flat_intsD R.liked).lay, Nat.le_trans (flat_intsD R.liked).depth (by decide)⟩
end
end TH
set_option maxRecDepth 100000
set_option maxHeartbeats 4000000
namespace TH
open PySem L2 Evl
/-! ### which lists are books -/
theorem ca : ("a" : Str).cps.toList = [97] := by decide +kernel
theorem cz : ("z" : Str).cps.toList = [122] := by decide +kernel
theorem okc_iff (c : Nat) : okc c = true ↔ 97 ≤ c ∧ c ≤ 122 := by
  unfold okc
  rw [ca, cz]
  simp only [Bool.and_eq_true, Bool.not_eq_true', decide_eq_false_iff_not, List.cons_lt_cons_iff, List.not_lt_nil, and_false, or_false]
  omega
theorem nameB_iff (z : Str) : isNameB z = true ↔ NameOk z := by
  unfold isNameB
  simp only [Bool.and_eq_true, decide_eq_true_eq, List.all_eq_true, okc_iff]
  constructor
  · rintro ⟨⟨h1, h2⟩, h3⟩
    exact ⟨by omega, by omega, h3⟩
  · rintro ⟨h1, h2, h3⟩
    exact ⟨⟨by omega, by omega⟩, h3⟩
theorem nodup_key (S : List Sg) : (S.map fun p => (Sum.inr p.1 : Key)).Nodup ↔ (S.map (·.1)).Nodup := by
  have e : (S.map fun p => (Sum.inr p.1 : Key)) = (S.map (·.1)).map Sum.inr := by rw [List.map_map]; rfl
  rw [e]
  constructor
  · intro h
    exact List.Pairwise.of_map Sum.inr (fun a b hab e => hab (by rw [e])) h
  · intro h
    exact List.Pairwise.map _ (fun a b hab e => hab (Sum.inr.inj e)) h
theorem valid_split (S : List Sg) : validB S = true ↔ (1 ≤ S.length ∧ S.length ≤ 6) ∧ (∀ p ∈ S, isSignB p = true) ∧ (S.map (·.1)).Nodup ∧ ∃ p ∈ S, p.2 = 0 := by
  unfold validB
  have h := sall_lt (S.map fun p => (Sum.inr p.1 : Key))
  rw [List.length_map] at h
  have h2 : ((sall (S.map fun p => (Sum.inr p.1 : Key))).2 : Int) < (S.length : Int) ↔ ¬ (S.map (·.1)).Nodup := by
    rw [← nodup_key, ← h]
    exact Int.ofNat_lt
  simp only [Bool.and_eq_true, decide_eq_true_eq, List.all_eq_true, Bool.not_eq_true', decide_eq_false_iff_not, List.any_eq_true]
  rw [h2, Classical.not_not]
  constructor
  · rintro ⟨⟨a, b⟩, c, d, e⟩
    exact ⟨⟨by omega, by omega⟩, c, d, e⟩
  · rintro ⟨⟨a, b⟩, c, d, e⟩
    exact ⟨⟨by omega, by omega⟩, c, d, e⟩
theorem sign_iff (p : Sg) : isSignB p = true ↔ NameOk p.1 ∧ 0 ≤ p.2 ∧ p.2 ≤ 2 := by
  unfold isSignB
  simp only [Bool.and_eq_true, decide_eq_true_eq, nameB_iff]
theorem valid_good {S : List Sg} (h : Good S) : validB S = true := by
  rw [valid_split]
  exact ⟨⟨h.ne, h.len⟩, fun p hp => (sign_iff p).mpr ⟨h.name p hp, h.kids p hp⟩, h.nd, h.leaf⟩
theorem bad_of {S : List Sg} (h : ¬ ((1 ≤ S.length ∧ S.length ≤ 6) ∧ (∀ p ∈ S, isSignB p = true) ∧ (S.map (·.1)).Nodup ∧ ∃ p ∈ S, p.2 = 0)) : validB S = false := by
  rw [← Bool.not_eq_true, valid_split]
  exact h
theorem bad_sign {S : List Sg} {p : Sg} (hp : p ∈ S) (h : ¬ (NameOk p.1 ∧ 0 ≤ p.2 ∧ p.2 ≤ 2)) : validB S = false :=
  bad_of fun z => h ((sign_iff p).mp (z.2.1 p hp))
/-- what may be told again and held against another -/
structure Sane (S : List Sg) : Prop where
  len : S.length ≤ 100
  name : ∀ q ∈ S, q.1.length ≤ 1000
  ok : ∀ q ∈ S, PyData.strOk q.1 = true
theorem strOk_iff (z : Str) : PyData.strOk z = true ↔ ∀ c ∈ z.cps.toList, c < 0x110000 := by
  unfold PyData.strOk
  rw [← Array.all_toList, List.all_eq_true]
  simp only [decide_eq_true_eq]
theorem NameOk.strOk {z : Str} (h : NameOk z) : PyData.strOk z = true := by
  rw [strOk_iff]
  intro c hc
  have := (h.az c hc).2
  omega
theorem Good0.sane {S : List Sg} (h : Good0 S) : Sane S :=
  ⟨Nat.le_trans h.len (by decide), fun q hq => Nat.le_trans (h.name q hq).hi (by decide), fun q hq => (h.name q hq).strOk⟩
theorem Sane.append {S T : List Sg} (h : Sane S) (k : Sane T) (hl : S.length + T.length ≤ 100) : Sane (S ++ T) :=
  ⟨by rw [List.length_append]; exact hl, fun q hq => (List.mem_append.mp hq).elim (h.name q) (k.name q), fun q hq => (List.mem_append.mp hq).elim (h.ok q) (k.ok q)⟩
theorem Sane.sub {S T : List Sg} (h : Sane S) (hs : ∀ q ∈ T, q ∈ S) (hl : T.length ≤ 100) : Sane T := ⟨hl, fun q hq => h.name q (hs q hq), fun q hq => h.ok q (hs q hq)⟩
theorem Sane.one {q : Sg} (h1 : q.1.length ≤ 1000) (h2 : PyData.strOk q.1 = true) : Sane [q] :=
  ⟨by show 1 ≤ 100; decide, fun r hr => by rw [List.mem_singleton.mp hr]; exact h1, fun r hr => by rw [List.mem_singleton.mp hr]; exact h2⟩
/-- one sign of the list otherwise -/
def bent (S : List Sg) (j : Nat) (q : Sg) : List Sg := S.take j ++ [q] ++ S.drop (j + 1)
theorem bent_mem (S : List Sg) (j : Nat) (q : Sg) : q ∈ bent S j q := by
  unfold bent
  exact List.mem_append_left _ (List.mem_append_right _ (List.mem_singleton.mpr rfl))
theorem Sane.bent {S : List Sg} {j : Nat} {q : Sg} (h : Sane S) (hl : S.length ≤ 50) (h1 : q.1.length ≤ 1000) (h2 : PyData.strOk q.1 = true) : Sane (bent S j q) := by
  have h3 := Sane.one h1 h2
  unfold TH.bent
  have l1 : (S.take j).length ≤ 50 := Nat.le_trans (by rw [List.length_take]; exact Nat.min_le_right _ _) hl
  have l2 : (S.drop (j + 1)).length ≤ 49 := by rw [List.length_drop]; omega
  refine ((h.sub (fun q hq => List.mem_of_mem_take hq) (by omega)).append h3 ?_).append (h.sub (fun q hq => List.mem_of_mem_drop hq) (by omega)) ?_
  · show (S.take j).length + 1 ≤ 100
    omega
  · rw [List.length_append]
    show (S.take j).length + 1 + (S.drop (j + 1)).length ≤ 100
    omega
/-- parts of lists -/
theorem cutG_take {α : Type} (xs : List α) (j : Nat) : cutG xs none (some (j : Int)) = xs.take j := by
  unfold cutG
  rw [HT.sIx_none, HT.sIx_nat, List.drop_zero, Nat.sub_zero, List.take_eq_take_min]
  rw [Nat.min_assoc, Nat.min_self, ← List.take_eq_take_min]
theorem cutG_drop {α : Type} (xs : List α) (j : Nat) : cutG xs (some (j : Int)) none = xs.drop j := by
  unfold cutG
  rw [HT.sIx_none, HT.sIx_nat]
  by_cases h : j ≤ xs.length
  · rw [Nat.min_eq_left h]
    exact List.take_of_length_le (by rw [List.length_drop]; omega)
  · rw [Nat.min_eq_right (by omega), List.drop_eq_nil_of_le (Nat.le_refl _), List.drop_eq_nil_of_le (by omega), List.take_nil]
theorem cutS_len (z : Str) (lo hi : Option Int) : (cutS z lo hi).length ≤ z.length := by
  show (cutS z lo hi).cps.size ≤ _
  unfold cutS
  rw [List.size_toArray, List.length_take, List.length_drop, Array.length_toList]
  show _ ≤ z.cps.size
  omega
theorem cutS_mem (z : Str) (lo hi : Option Int) : ∀ c ∈ (cutS z lo hi).cps.toList, c ∈ z.cps.toList := by
  intro c hc
  exact List.mem_of_mem_drop (List.mem_of_mem_take hc)
theorem app_len (x y : Str) : (x ++ y).length = x.length + y.length := by
  show (x ++ y).cps.size = _
  rw [Str.cps_append, Array.size_append]
  rfl
theorem app_mem (x y : Str) (c : Nat) : c ∈ (x ++ y).cps.toList ↔ c ∈ x.cps.toList ∨ c ∈ y.cps.toList := by
  rw [Str.cps_append, Array.toList_append, List.mem_append]
theorem strOk_app {x y : Str} (h : PyData.strOk x = true) (k : PyData.strOk y = true) : PyData.strOk (x ++ y) = true := by
  rw [strOk_iff] at *
  intro c hc
  rcases (app_mem x y c).mp hc with hc | hc
  · exact h c hc
  · exact k c hc
theorem strOk_cut {x : Str} (lo hi : Option Int) (h : PyData.strOk x = true) : PyData.strOk (cutS x lo hi) = true := by
  rw [strOk_iff] at *
  exact fun c hc => h c (cutS_mem x lo hi c hc)
end TH
set_option maxRecDepth 100000
set_option maxHeartbeats 4000000
namespace TH
open PySem L2 Evl
theorem q_parR {ta tb : TE} {i j : Nat} {tz : TS} {D : Ends} {σ : L2.St} {H : Hp} (h : ta σ H fun x H1 => tb σ H1 fun y H2 => ∃ v w, [x, y] = [v, w] ∧ tz D ((σ.set i (some v)).set j (some w)) H2) : tSeq (tPar i j (tCons ta (tCons tb tNil))) tz D σ H := h
theorem flat_tabs {ts : List (List Nat)} : Flat 2 (.list (ts.map intsD)) := flat_list fun d hd => by
  obtain ⟨t, _, rfl⟩ := List.mem_map.mp hd
  exact flat_intsD t
theorem lik_len {S : List Sg} {R : Pl} (g : Wf S R) (h6 : R.moods ≤ 36) : R.liked.length ≤ 36 := by
  have h : ∀ (r : List Nat) (lo n : Nat), r.Pairwise (· < ·) → (∀ x ∈ r, lo ≤ x ∧ x < n) → r.length ≤ n - lo := by
    intro r
    induction r with
    | nil => intros; exact Nat.zero_le _
    | cons x r ih =>
      intro lo n h1 h2
      obtain ⟨h3, h4⟩ := List.pairwise_cons.mp h1
      obtain ⟨h5, h6⟩ := h2 x List.mem_cons_self
      have := ih (x + 1) n h4 fun y hy => ⟨h3 y hy, (h2 y (List.mem_cons_of_mem _ hy)).2⟩
      rw [List.length_cons]
      omega
  have := h R.liked 0 R.moods g.lik fun x hx => ⟨Nat.zero_le _, g.likm x hx⟩
  omega
section
variable {K : PySem.W.Frag} {M M' : Addr → Prop} {H H1 H' : Hp} {σ : L2.St} {ta tb tc te : TE} {E : XK} {CB CR p : Addr} {S : List Sg} {R : Pl} {ts : List Tr}
theorem evd_lreads (hs : Ev te σ H (.ref p)) (hR : ReadAt K CB CR MF H p S R) (gR : GoodR S R) (hK : KidsOk S) (ha : EvD K MF ta σ H (.list (S.map sgD))) (hb : EvD K MF tb σ H (plD R)) (hc : EvD K MF tc σ H (.list (ts.map rowD))) (hts : ∀ t ∈ ts, OkT S t ∧ t.size ≤ 40) :
    EvD K M (tCall (spLReads K CB CR) [] E (tCons te (tCons ta (tCons tb (tCons tc tNil))))) σ H (.bool true) := fun H1 e Q q =>
  hs H1 e _ fun H2 e2 => ha H2 (e.trans e2) _ fun v1 d1 H3 e3 dv1 p1 => hb H3 ((e.trans e2).trans e3) _ fun v2 d2 H4 e4 dv2 p2 => hc H4 (((e.trans e2).trans e3).trans e4) _ fun v3 d3 H5 e5 dv3 p3 => by
    subst p1 p2 p3
    have e0 := (((e.trans e2).trans e3).trans e4).trans e5
    exact ⟨MF, p, v1, v2, v3, S, R, ts, rfl, hR.ex e0, gR, hK, dv1.ex (e4.trans e5), dv2.ex e5, dv3, hts, fun H6 e6 => q _ _ H6 ((((e2.trans e3).trans e4).trans e5).trans e6) (.bl _) rfl⟩
theorem evd_ltold (ok : Ok M H) (hs : Ev te σ H (.ref p)) (hR : ReadAt K CB CR M' H p S R) (gR : GoodR S R) (ha : EvD K M' ta σ H (.list (S.map sgD))) (hS : S.length ≤ 100) : EvD K M (tCall (spLTold K CB CR) [] E (tCons te (tCons ta tNil))) σ H (plD R) := fun H1 e Q q =>
  hs H1 e _ fun H2 e2 => ha H2 (e.trans e2) _ fun v1 d1 H3 e3 dv1 p1 => by
    subst p1
    have e0 := (e.trans e2).trans e3
    exact ⟨M', p, v1, S, R, rfl, hR.ex e0, gR, dv1, hS, fun x H4 e4 nd => q x _ H4 ((e2.trans e3).trans e4) (nd M (ok.ex e0)) rfl⟩
end
abbrev sLaw : Stmt := top 38
/-- a list of at most 63 ints is handed in, True comes out -/
def spLaw (K : PySem.W.Frag) : Sp := fun vs H Q _ => ∃ (a : Addr) (ns : List Int), vs = [.ref a] ∧ SqL K H a (ns.map V.int) ∧ ns.length ≤ 63 ∧ ∀ H', Q (.bl true) H'
structure GlobW (mg : Str → Option Value) : Prop extends GlobL mg where
  max : mg "max" = none
  list : mg "list" = none
  zip : mg "zip" = none
section
variable {P : Program} {w : World} {K : PySem.W.Frag} {mg : Str → Option Value} {base : Heap} {CB CR CN CD CT : Addr}
abbrev nLaw : List Str := ["_law_script", "_law_k", "_law_box_here", "_law_signs_here", "_law_book", "_law_lots", "_law_rows", "_law_readers", "_law_plain", "_law_tables", "_law_liked", "_law_table", "_law_turn", "_law_reader_here"]
theorem scLaw : FnScope nLaw ["_law_script"] (defScope sLaw) := ⟨rfl, rfl, rfl, by decide +kernel, rfl, by decide +kernel, by decide +kernel⟩
theorem ok_law {f : Addr} {fd : FuncData} (F : Fun K "law" "law" sLaw f fd) (G : GlobW mg)
    (GX : OneF P w K mg base "_law_box" 1 ["_law_script", "_law_k"] (spBox K)) (GT : OneF P w K mg base "_law_take" 2 ["_law_box_here", "_law_count"] spTake) (GS : OneF P w K mg base "_law_signs" 3 ["_law_box_here"] (spSigns K))
    (GR : OneF P w K mg base "_law_row" 3 ["_law_box_here", "_law_signs_here", "_law_most"] (spLRow K)) (GP : OneF P w K mg base "_law_reader" 3 ["_law_box_here", "_law_signs_here", "_law_most"] (spLReader K))
    (GE : OneF P w K mg base "_law_reads" 7 ["_law_reader_here", "_law_signs_here", "_law_plain", "_law_rows"] (spLReads K CB CR)) (GO : OneF P w K mg base "_law_told" 2 ["_law_reader_here", "_law_signs_here"] (spLTold K CB CR))
    (T : BookT K mg CB) (TR : ReadT K mg CR)
    (M1 : OneM P w K mg base CR "liked" 1 ["self"] (spRLiked K CB CR)) (M2 : OneM P w K mg base CR "table" 1 ["self", "sign"] (spRTable K CB CR)) (M3 : OneM P w K mg base CR "book" 1 ["self"] (spRBook K CB CR)) (M4 : OneM P w K mg base CB "is_like" 1 ["self", "book"] (spLike CB))
    {fI : Addr} {fdI : FuncData} (mk : Mk K CB fI) (GI : FnOk P w K mg base (L2.CX P w) 4 fI fdI ["self", "signs"] (spInit K CB CN)) (bI : Binds K fdI ["self", "signs"] [])
    {fJ : Addr} {fdJ : FuncData} (mkR : Mk K CR fJ) (GJ : FnOk P w K mg base (L2.CX P w) 4 fJ fdJ ["self", "book", "moods", "tables", "liked"] (spRInit K CB CR CD)) (bJ : Binds K fdJ ["self", "book", "moods", "tables", "liked"] []) :
    FnOk P w K mg base CX0 8 f fd ["_law_script"] (spLaw K) := by
  obtain ⟨fX, dX, mX, kX, gX, bX⟩ := GX
  obtain ⟨fT, dT, mT, kT, gT, bT⟩ := GT
  obtain ⟨fS, dS, mS, kS, gS, bS⟩ := GS
  obtain ⟨fR, dR, mR, kR, gR, bR⟩ := GR
  obtain ⟨fP, dP, mP, kP, gP, bP⟩ := GP
  obtain ⟨fE, dE, mE, kE, gE, bE⟩ := GE
  obtain ⟨fO, dO, mO, kO, gO, bO⟩ := GO
  obtain ⟨f1, d1, m1, g1, b1⟩ := M1
  obtain ⟨f2, d2, m2, g2, b2⟩ := M2
  obtain ⟨f3, d3, m3, g3, b3⟩ := M3
  obtain ⟨f4, d4, m4, g4, b4⟩ := M4
  refine F.ok scLaw (fun vs H Q E h => ?_) fun cdv A outer s H vs Q E hr h => ?_
  · obtain ⟨a, ns, rfl, _⟩ := h
    rfl
  · obtain ⟨a, ns, rfl, hS, hlen, q⟩ := h
    have hr1 : Room 1 _ := hr.mono (show 1 ≤ 7 by decide)
    have hr2 : Room 2 _ := hr.mono (show 2 ≤ 7 by decide)
    have hr3 : Room 3 _ := hr.mono (show 3 ≤ 7 by decide)
    have hr5 : Room 5 _ := hr.mono (show 5 ≤ 7 by decide)
    have hu := hu64 hr
    refine ⟨_, (pss_cons (ps_for PassesOwn.never rfl (pi_range1 rfl G.range (pa_cons (pe_callB (call_max2 rfl) (by rfl) G.max (by decide +kernel) (pa_cons pe_int (pa_cons (pe_callB (call_min2 rfl) (by rfl) G.min (by decide +kernel) (pa_cons (pe_callB call_len_seq (by rfl) G.len PySem.boot_len (pa_cons (pv 0) pa_nil)) (pa_cons pe_int pa_nil))) pa_nil))) pa_nil)) (pg_name (i := 1) scLaw.nd rfl (.inl rfl))
      (pss_cons (ps_set (i := 2) scLaw.nd rfl (.inr rfl) (pe_call gX hr1 rfl mX kX bX .nil pass0 (pa_cons (pv 0) (pa_cons (pv 1) pa_nil))))
      (pss_cons (ps_set (i := 3) scLaw.nd rfl (.inr rfl) (pe_call gS hr3 rfl mS kS bS .nil pass0 (pa_cons (pv 2) pa_nil)))
      (pss_cons (ps_set (i := 4) scLaw.nd rfl (.inl rfl) (pe_make mk GI hr5 rfl T.g bI .nil passL (pa_cons (pv 3) pa_nil)))
      (pss_cons (ps_set (i := 5) scLaw.nd rfl (.inl rfl) (pe_lst (pa_cons (pe_call gP hr3 rfl mP kP bP .nil pass0 (pa_cons (pv 2) (pa_cons (pv 3) (pa_cons pe_int pa_nil)))) (pa_cons (pe_call gP hr3 rfl mP kP bP .nil pass0 (pa_cons (pv 2) (pa_cons (pv 3) (pa_cons pe_int pa_nil)))) pa_nil))))
      (pss_cons (ps_setLc (i := 6) (own := [("_law_turn", 12)]) (g := gName 12) (by rfl) scLaw.nd rfl rfl (sw_true rfl rfl rfl (by decide +kernel)) (pi_range1 rfl G.range (pa_cons pe_int pa_nil))
      (blkOk_by (N := nLaw) (sc := defScope sLaw) (by decide +kernel)) (fun _ _ _ _ _ => pg_name (i := 12) scLaw.nd rfl (.inl rfl)) (fun _ _ _ _ _ => pts_nil)
      (fun _ _ _ _ _ => pe_call gR hr3 rfl mR kR bR .nil pass0 (pa_cons (pv 2) (pa_cons (pv 3) (pa_cons (pe_ix (ix_listK (K := K) rfl) (pe_lst (pa_cons pe_int (pa_cons pe_int (pa_cons pe_int (pa_cons pe_int pa_nil))))) (pe_call gT hr2 rfl mT kT bT .nil pass0 (pa_cons (pv 2) (pa_cons pe_int pa_nil))) (fun _ _ => rfl)) pa_nil)))))
      (pss_cons (ps_set (i := 7) scLaw.nd rfl (.inl rfl) (pe_lst pa_nil))
      (pss_cons (ps_for PassesOwn.never rfl (pi_list (pv 5)) (pg_name (i := 8) scLaw.nd rfl (.inl rfl))
      (pss_cons (ps_par (by rfl) scLaw.nd (i := 9) (j := 10) rfl rfl (by decide) rfl rfl (pa_cons (pe_lc (own := [("_law_table", 11)]) (g := gName 11) (tt := tYes) rfl scLaw.nd (pi_list (pe_ix ix_tup (pv 8) pe_int (fun _ _ => rfl)))
      (blkOk_by (N := nLaw) (sc := defScope sLaw) (by decide +kernel)) (fun _ _ _ _ _ => pg_name (i := 11) scLaw.nd rfl (.inl rfl)) (fun _ _ _ _ _ => pts_nil)
      (fun _ _ _ _ _ => pe_callTy (call_list_ofK (K := K) rfl) (by rfl) G.list (by decide +kernel) (pa_cons (pv 11) pa_nil))) (pa_cons (pe_callTy call_list_of (by rfl) G.list (by decide +kernel) (pa_cons (pe_ix ix_tup (pv 8) pe_int (fun _ _ => rfl)) pa_nil)) pa_nil)) (by rfl))
      (pss_cons (ps_expr (pe_bm PySem.F.plainAttrs_list PySem.F.slot_list_append PySem.F.type_list_append mt_append (pv 7) (pa_cons (pe_make mkR GJ hr5 rfl TR.g bJ .nil passL (pa_cons (pv 4) (pa_cons (pe_ix ix_tup (pv 8) pe_int (fun _ _ => rfl)) (pa_cons (pv 9) (pa_cons (pv 10) pa_nil))))) pa_nil)))
      (pss_cons (ps_if (PW.pt (pw_or (pt_cmpR (op_neD hu) (pv 9) (pe_ix ix_tup (pv 8) pe_int (fun _ _ => rfl)) (nomark _)) (pw_or1 (pt_cmpR (op_neD hu) (pv 10) (pe_ix ix_tup (pv 8) pe_int (fun _ _ => rfl)) (nomark _))))) (pss_one (ps_ret pe_bl)) pss_nil)
      (pss_cons (ps_for PassesOwn.never rfl (pi_list (pv 9)) (pg_name (i := 11) scLaw.nd rfl (.inl rfl))
      (pss_cons (ps_expr (pe_bm PySem.F.plainAttrs_list PySem.F.slot_list_append PySem.F.type_list_append mt_append (pv 11) (pa_cons pe_int pa_nil)))
      (pss_one (ps_expr (pe_bm0 PySem.F.plainAttrs_list PySem.F.slot_list_reverse PySem.F.type_list_reverse mt_reverse (pv 11))))))
      (pss_cons (ps_expr (pe_bm0 PySem.F.plainAttrs_list PySem.F.slot_list_reverse PySem.F.type_list_reverse mt_reverse (pv 9)))
      (pss_one (ps_expr (pe_bm PySem.F.plainAttrs_list PySem.F.slot_list_append PySem.F.type_list_append mt_append (pv 10) (pa_cons pe_int pa_nil))))))))))
      (pss_one (ps_for PassesOwn.never rfl (pi_range1 rfl G.range (pa_cons pe_int pa_nil)) (pg_name (i := 12) scLaw.nd rfl (.inl rfl))
      (pss_one (ps_for PassesOwn.never rfl (pi_zip (by rfl) G.zip (pa_cons (pv 7) (pa_cons (pv 5) pa_nil))) (pg_tup rfl (pgs_cons (pg_name (i := 13) scLaw.nd rfl (.inl rfl)) (pgs_cons (pg_name (i := 8) scLaw.nd rfl (.inl rfl)) pgs_nil)))
      (pss_cons (ps_if (PW.pt (pw_or (pt_not (pt_val (pe_call gE hr rfl mE kE bE .nil pass0 (pa_cons (pv 13) (pa_cons (pv 3) (pa_cons (pv 8) (pa_cons (pv 6) pa_nil))))))) (pw_or1 (pt_cmpR (op_neD hu) (pe_call gO hr2 rfl mO kO bO .nil pass0 (pa_cons (pv 13) (pa_cons (pv 3) pa_nil))) (pv 8) (nomark _))))) (pss_one (ps_ret pe_bl)) pss_nil)
      (pss_cons (ps_expr (pe_bm PySem.F.plainAttrs_list PySem.F.slot_list_append PySem.F.type_list_append mt_append (pe_meth0 (pv 13) TR.cl m1 g1 hr1 b1 .nil pass0) (pa_cons pe_int pa_nil)))
      (pss_cons (ps_expr (pe_bm0 PySem.F.plainAttrs_list PySem.F.slot_list_clear PySem.F.type_list_clear mt_clear (pe_meth (pv 13) TR.cl m2 g2 hr1 b2 .nil pass0 (pa_cons pe_int pa_nil))))
      (pss_one (ps_if (pt_cmpR op_notBl (pe_meth (pe_meth0 (pv 13) TR.cl m3 g3 hr1 b3 .nil pass0) T.cl m4 g4 hr1 b4 .nil pass0 (pa_cons (pv 4) pa_nil)) pe_bl (nomark _)) (pss_one (ps_ret pe_bl)) pss_nil)))))))))))))))))
      (pss_one (ps_ret pe_bl))), ?_⟩
    have hl63 : (ns.map V.int).length ≤ 63 := by rw [List.length_map]; exact hlen
    refine ⟨_, rfl, _, _, rfl, .inl hS, _, _, rfl, _, _, rfl, _, rfl, ?_, ?_, ?_⟩
    · split <;> split <;> omega
    · split <;> split <;> omega
    have hnt : ∀ z : Int, z = (if (if (3 : Int) < ((ns.map V.int).length : Int) then 3 else ((ns.map V.int).length : Int)) > 1 then (if (3 : Int) < ((ns.map V.int).length : Int) then 3 else ((ns.map V.int).length : Int)) else 1) → z ≤ 3 := by
      intro z hz
      rw [hz]
      split <;> split <;> omega
    have hnt := hnt _ rfl
    generalize (if (if (3 : Int) < ((ns.map V.int).length : Int) then 3 else ((ns.map V.int).length : Int)) > 1 then (if (3 : Int) < ((ns.map V.int).length : Int) then 3 else ((ns.map V.int).length : Int)) else 1) = nt at hnt ⊢
    refine for_range (lo := 0) (n := nt.toNat) (fun i σ' H' => Ex H H' ∧ ∃ u1 u2 u3 u4 u5 u6 u7 u8 u9 u10 u11 u12 u13, σ' = [some (.ref a), u1, u2, u3, u4, u5, u6, u7, u8, u9, u10, u11, u12, u13])
      ⟨Ex.refl H, _, _, _, _, _, _, _, _, _, _, _, _, _, rfl⟩ ?_ (fun σ' H' ⟨_, u1, u2, u3, u4, u5, u6, u7, u8, u9, u10, u11, u12, u13, e⟩ => q H')
    rintro i σ' Hi hi ⟨eH, u1, u2, u3, u4, u5, u6, u7, u8, u9, u10, u11, u12, u13, rfl⟩
    -- the box, the signs, the book
    refine q_asgR ⟨_, rfl, _, rfl, a, ns, _, rfl, ex_l eH hS, by omega, by omega, fun b H1 hb e1 hbox => ?_⟩
    refine q_asgR ⟨_, rfl, b, rfl, hbox, fun l xs S H2 gS e2 hl hxs dS => ?_⟩
    have sS := gS.toGood0.sane
    have hsg : Dt K MF H2 (.ref l) (.list (S.map sgD)) := .lst hxs (fun z => z) dS.flat
    refine q_asgR (make_book (M := MF) okF (evd_var (i := 3) rfl hsg) (valid_good gS) sS.len (fun q hq => Nat.le_trans (sS.name q hq) (by decide)) fun x H3 e3 hB => ?_)
    have hbox3 := (e2.trans e3) _ _ hbox
    have hsg3 := hsg.ex e3
    have hK := gS.kidsOk
    have hS100 : S.length ≤ 100 := sS.len
    -- two readers, told
    refine q_asgP (K := K) (M := MF) (P := fun d => ∃ R1 R2, d = .list [plD R1, plD R2] ∧ (GoodR S R1 ∧ R1.moods ≤ 6) ∧ (GoodR S R2 ∧ R2.moods ≤ 6)) ((evp_lst okF (evpa_cons (evp_lreader (most := 6) okF (ev_var (i := 2) rfl) hbox3 (evd_var (i := 3) rfl hsg3) evd_int hK hS100 (by decide) (by decide)) (evpa_cons (evp_lreader (most := 6) okF (ev_var (i := 2) rfl) hbox3 (evd_var (i := 3) rfl hsg3) evd_int hK hS100 (by decide) (by decide)) eva_nil)) (fun ds ⟨d1, _, h, _, d2, _, h2, _, h3⟩ => by rw [h, h2, h3]; show 2 ≤ sizeLine; decide)).mono fun d ⟨ds, h0, d1, ds1, h1, ⟨R1, p1, g1, m1⟩, d2, ds2, h2, ⟨R2, p2, g2, m2⟩, h3⟩ => ⟨R1, R2, by rw [h0, h1, h2, h3, p1, p2], ⟨g1, m1⟩, g2, m2⟩) fun vlo dlo H4 e4 dvlo plo => ?_
    obtain ⟨R1, R2, rfl, gR1, gR2⟩ := plo
    have hbox4 := e4 _ _ hbox3
    have hsg4 := hsg3.ex e4
    -- eight trees
    refine q_asgN (K := K) (M := MF) (evn_lcRI (K := K) (M := MF) (n := 8) (fun i es => ∃ ts : List Tr, es = ts.map rowD ∧ ts.length = i ∧ ∀ t ∈ ts, OkT S t ∧ t.size ≤ 40) okF (eva_cons evd_int eva_nil) (by decide) ⟨[], rfl, rfl, fun t h => nomatch h⟩ (fun M' i es H' hm ok' hi hI e Qg qg => ?_)) fun lr xr ds H5 hlr e5 hlr5 dxr pI => ?_
    · obtain ⟨ts, rfl, hl, hts⟩ := hI
      refine qg _ H' (Ex.refl _) ⟨rfl, fun H5 e5 Q q => q true H5 (Ex.refl _) (fun _ => ?_) (fun h => nomatch h)⟩
      refine (evp_lrow (mx := 40) (ok'.ex e5) (ev_var (i := 2) rfl) ((e.trans e5) _ _ hbox4) (evd_var (i := 3) rfl ((hm _ _ hsg4).ex e5)) gS ((evp_pick (ns := [1, 4, 10, 40]) (evd_lst (ok'.ex e5) (eva_cons evd_int (eva_cons evd_int (eva_cons evd_int (eva_cons evd_int eva_nil)))) (by show 4 ≤ sizeLine; decide)) (ev_var (i := 2) rfl) ((e.trans e5) _ _ hbox4) evd_int rfl (by decide) (by decide)).mono fun d ⟨z, h1, h2⟩ => ?_) (by decide)).mono fun d ⟨t, h1, h2, h3⟩ => ⟨ts ++ [t], by rw [h1, List.map_append]; rfl, by rw [List.length_append, hl]; rfl, fun u hu => ?_⟩
      · have hz : z = 1 ∨ z = 4 ∨ z = 10 ∨ z = 40 := by simpa using h2
        exact ⟨z.toNat, by rw [h1, Int.toNat_of_nonneg (by omega)], by omega, by omega⟩
      · rcases List.mem_append.mp hu with hu | hu
        · exact hts u hu
        · rw [List.mem_singleton.mp hu]
          exact ⟨h2, h3⟩
    obtain ⟨ts, rfl, hl8, hts⟩ := pI
    have hrows : ∀ {H'}, Ex H5 H' → Dt K MF H' (.ref lr) (.list (ts.map rowD)) := fun e => .lst (e _ _ hlr5) (fun h => h) (dxr.ex e)
    have hB5 := hB.ex (e4.trans e5)
    have hsg5 := hsg4.ex e5
    have dlo5 := dvlo.ex e5
    obtain ⟨lo, y1, y2, rfl, hlo5, dy1, dy2⟩ : ∃ lo y1 y2, vlo = .ref lo ∧ H5 lo = some (.lst [y1, y2]) ∧ Dt K MF H5 y1 (plD R1) ∧ Dt K MF H5 y2 (plD R2) := by
      cases dlo5 with
      | lst w1 w2 w3 =>
      cases w3 with
      | cons r1 w3 =>
      cases w3 with
      | cons r2 w3 =>
      cases w3
      exact ⟨_, _, _, rfl, w1, r1, r2⟩
    have hplain : ∀ {j : Nat} {y : V}, [y1, y2][j]? = some y → ∃ R, [R1, R2][j]? = some R ∧ Dt K MF H5 y (plD R) ∧ GoodR S R ∧ R.moods ≤ 6 := fun {j y} h => by
      match j, h with
      | 0, h =>
        cases h
        exact ⟨R1, rfl, dy1, gR1⟩
      | 1, h =>
        cases h
        exact ⟨R2, rfl, dy2, gR2⟩
    -- the readers are made
    refine ⟨by decide, fun lq hlq => ?_⟩
    refine q_forLn (K := K) (a := lo) (xs := [y1, y2]) (ev_var (i := 5) rfl) (sq_of ((Ex.new hlq) _ _ hlo5))
      (fun j σ' H' => Ex H5 H' ∧ ∃ u8 u9 u10 u11 xs, σ' = [some (.ref a), some (.int (0 + (i : Int))), some (.ref b), some (.ref l), some (.ref x), some (.ref lo), some (.ref lr), some (.ref lq), u8, u9, u10, u11, u12, u13] ∧ H' lq = some (.lst xs) ∧ xs.length = j ∧ ∀ k v, xs[k]? = some v → ∃ p R, v = V.ref p ∧ [R1, R2][k]? = some R ∧ ReadAt K CB CR (· = lq) H' p S R)
      (fun H7 e7 => ⟨(Ex.new hlq).trans e7, _, _, _, _, [], rfl, e7 _ _ upd_same, rfl, fun k v h => by rw [List.getElem?_nil] at h; cases h⟩) (fun j σ' H' _ h => sq_of (h.1 _ _ hlo5)) ?_ ?_
    · rintro j y σ' H7 hy ⟨e7, v8, v9, v10, v11, xs, rfl, hq7, hxl, hrd⟩
      obtain ⟨R, hRj, dy, gR, hR6⟩ := hplain hy
      have dyp : ∀ {M' : Addr → Prop} {H'}, (∀ a, M' a → H5 a = none) → Ex H5 H' → Dt K M' H' y (plD R) := fun n e => (dy.avoid fun a m => .inr (n a m)).ex e
      have hkl : R.tables.length < sizeLine := by rw [gR.len]; exact Nat.lt_of_le_of_lt hS100 (by decide)
      refine q_parR ((evn_lcMN (K := K) (M := MF) (N := MO H7) (bs := R.tables) intsD intsD okO (evd_ixT (j := 1) (ds := [.int (R.moods : Int), .list (R.tables.map intsD), intsD R.liked]) (evd_var (i := 8) (d := plD R) rfl (dy.ex e7)) evd_int rfl rfl) hkl (fun N' tb x H' hm ok' hb e dx Qg qg => ?_)) H7 (Ex.refl _) _ fun lt xt ds H8 hlt e8 hlt8 dxt pds => ?_)
      · exact qg _ H' (Ex.refl _) ⟨rfl, evt_yes, fun _ => evd_listNew (M := MF) (ns := ofN tb) ok' (eva_cons (evd_var (i := 11) rfl dx) eva_nil)⟩
      subst pds
      refine evn_listOf (K := K) (M := MF) (ds := (ofN R.liked).map PyData.int) (eva_cons (evd_ixT (j := 2) (ds := [.int (R.moods : Int), .list (R.tables.map intsD), intsD R.liked]) (evd_var (i := 8) (d := plD R) rfl (dy.ex (e7.trans e8))) evd_int rfl rfl) eva_nil) H8 (Ex.refl _) _ fun ll xl H9 hll e9 hll9 dxl => ?_
      have exl : xl = nums R.liked := by rw [dxl.ints, nums_of]
      subst exl
      refine ⟨_, _, rfl, ?_⟩
      have e59 : Ex H5 H9 := e7.trans (e8.trans e9)
      have dT9 : Dt K (MO H7) H9 (.ref lt) (.list (R.tables.map intsD)) := .lst (e9 _ _ hlt8) (fun z => z hlt) (dxt.ex e9)
      have dL9 : Dt K (MO H7) H9 (.ref ll) (intsD R.liked) := .lst hll9 (fun z => z (fresh_back e8 hll)) (nums_dts _)
      have hq9 : H9 lq = some (.lst xs) := (e8.trans e9) _ _ hq7
      -- readers.append(Reader(..))
      refine ⟨_, rfl, .inl ⟨rfl, _, SqL.of hq9⟩, make_read (M := MF) (Mb := MF) (pb := x) (R := R) okF (ev_var (i := 4) rfl) (hB5.ex e59) hK (evd_ixT (j := 0) (ds := [.int (R.moods : Int), .list (R.tables.map intsD), intsD R.liked]) (evd_var (i := 8) (d := plD R) rfl (dy.ex e59)) evd_int rfl rfl) (evd_var (i := 9) rfl (dT9.weak fun _ h => h.elim)) (evd_var (i := 10) rfl (dL9.weak fun _ h => h.elim)) gR.toWf hR6 hS100 fun p H10 H11 e10 e11 hp hmk => ?_⟩
      have hq11 : H11 lq = some (.lst xs) := (e10.trans e11) _ _ hq9
      have hj2 : j < 2 := (List.getElem?_eq_some_iff.mp hy).1
      refine ⟨lq, xs, .ref p, rfl, rfl, hq11, by rw [hxl]; exact Nat.lt_of_le_of_lt (show j ≤ 2 by omega) (by decide), ?_⟩
      have e911 := e10.trans e11
      have e511 : Ex H5 H11 := e59.trans e911
      have e512 : Ex H5 (upd H11 lq (.lst (xs ++ [.ref p]))) := Ex.mut e511 hlq
      have hlq7 : MO H7 lq := fun z => by rw [z] at hq7; cases hq7
      have dT12 : Dt K (· = lq) (upd H11 lq (.lst (xs ++ [.ref p]))) (.ref lt) (.list (R.tables.map intsD)) := ((dT9.weak fun a h => by rw [h]; exact hlq7).ex e911).upd hq11 rfl
      have dL12 : Dt K (· = lq) (upd H11 lq (.lst (xs ++ [.ref p]))) (.ref ll) (intsD R.liked) := ((dL9.weak fun a h => by rw [h]; exact hlq7).ex e911).upd hq11 rfl
      have hq12 : (upd H11 lq (.lst (xs ++ [.ref p]))) lq = some (.lst (xs ++ [.ref p])) := upd_same
      have k12 : ∀ b o, H11 b = some o → b ≠ lq → (upd H11 lq (.lst (xs ++ [.ref p]))) b = some o := fun b o h n => by rw [upd_ne n]; exact h
      have hnl : ∀ {z : Addr}, H7 z = none → z ≠ lq := fun {z} h e => hlq7 (by rw [← e]; exact h)
      generalize eH12 : upd H11 lq (.lst (xs ++ [.ref p])) = H12 at e512 dT12 dL12 hq12 k12
      refine q_when (b := false) (et_or (a := false) (b := false) (et_is (evt_test (K := K) (M := MF) (evd_neD (n := 2) (m := 2) (evd_var (i := 9) rfl (dT12.weak fun _ h => h.elim)) (evd_ixT (j := 1) (ds := [.int (R.moods : Int), .list (R.tables.map intsD), intsD R.liked]) (evd_var (i := 8) (d := plD R) rfl (dy.ex e512)) evd_int rfl rfl) flat_tabs flat_tabs)) (by rw [flat_tabs.self]; rfl))
        (fun _ => et_is (evt_test (K := K) (M := MF) (evd_neD (n := 1) (m := 1) (evd_var (i := 10) rfl (dL12.weak fun _ h => h.elim)) (evd_ixT (j := 2) (ds := [.int (R.moods : Int), .list (R.tables.map intsD), intsD R.liked]) (evd_var (i := 8) (d := plD R) rfl (dy.ex e512)) evd_int rfl rfl) (flat_intsD _) (flat_intsD _))) (by rw [(flat_intsD _).self]; rfl))) (fun hb H13 e13 => nomatch hb) (fun hb H13 e13 => ?_)
      -- the handed-in lists are changed
      have hlt12 : H12 lt = some (.lst xt) := k12 _ _ ((e9.trans e911) _ _ hlt8) (hnl hlt)
      have hll12 : H12 ll = some (.lst (nums R.liked)) := k12 _ _ (e911 _ _ hll9) (hnl (fresh_back e8 hll))
      have hin : ∀ c, V.ref c ∈ xt → ∃ tb, H8 c = some (.lst (nums tb)) ∧ H7 c = none ∧ tb.length ≤ 36 := fun c hc => by
        obtain ⟨k, hk⟩ := List.mem_iff_getElem?.mp hc
        obtain ⟨d, hd, dd⟩ := dxt.get hk
        rw [List.getElem?_map] at hd
        cases htb : R.tables[k]? with
        | none =>
          rw [htb] at hd
          cases hd
        | some tb =>
        rw [htb] at hd
        cases hd
        obtain ⟨c', ec, hc8, hcn⟩ := dt_listN dd
        cases ec
        obtain ⟨h1, _⟩ := gR.tab k tb htb
        refine ⟨tb, hc8, ?_, by rw [h1]; exact mpow hR6 (ks_le hK k)⟩
        cases h7 : H7 c with
        | none => rfl
        | some o => exact absurd (fun z => by rw [h7] at z; cases z) hcn
      have hrefs : ∀ v ∈ xt, ∃ c, v = V.ref c := fun v hv => by
        obtain ⟨k, hk⟩ := List.mem_iff_getElem?.mp hv
        obtain ⟨d, hd, dd⟩ := dxt.get hk
        rw [List.getElem?_map] at hd
        cases htb : R.tables[k]? with
        | none =>
          rw [htb] at hd
          cases hd
        | some tb =>
        rw [htb] at hd
        cases hd
        obtain ⟨c', ec, _⟩ := dt_listN dd
        exact ⟨c', ec⟩
      have hinlt : ∀ c, V.ref c ∈ xt → c ≠ lt := fun c hc e => by
        obtain ⟨tb, h8, _⟩ := hin c hc
        rw [e, hlt8] at h8
        injection h8 with h8
        injection h8 with h8
        rw [h8] at hc
        unfold nums at hc
        obtain ⟨z, _, hz⟩ := List.mem_map.mp hc
        cases hz
      have hinll : ∀ c, V.ref c ∈ xt → c ≠ ll := fun c hc e => by
        obtain ⟨tb, h8, _⟩ := hin c hc
        rw [e, hll] at h8
        cases h8
      have hinlq : ∀ c, V.ref c ∈ xt → c ≠ lq := fun c hc => hnl (hin c hc).choose_spec.2.1
      have hltll : lt ≠ ll := fun e => by rw [e, hll] at hlt8; cases hlt8
      have e1213 : ∀ b o, H12 b = some o → H13 b = some o := e13
      refine q_forLn (K := K) (a := lt) (xs := xt) (ev_var (i := 9) rfl) (sq_of (e13 _ _ hlt12))
        (fun k σ' H' => (∃ v11, σ' = [some (.ref a), some (.int (0 + (i : Int))), some (.ref b), some (.ref l), some (.ref x), some (.ref lo), some (.ref lr), some (.ref lq), some y, some (.ref lt), some (.ref ll), v11, u12, u13]) ∧ H' lt = some (.lst xt) ∧ H' ll = some (.lst (nums R.liked)) ∧ H' lq = some (.lst (xs ++ [.ref p])) ∧ (∀ c, V.ref c ∈ xt → ∃ ys, H' c = some (.lst ys) ∧ ys.length ≤ 36 + k) ∧ ∀ b o, H13 b = some o → ¬ (b = lq ∨ b = lt ∨ b = ll ∨ V.ref b ∈ xt) → H' b = some o)
        (fun H14 e14 => ⟨⟨_, rfl⟩, e14 _ _ (e13 _ _ hlt12), e14 _ _ (e13 _ _ hll12), e14 _ _ (e13 _ _ hq12), fun c hc => ?_, fun b o h _ => e14 _ _ h⟩) (fun k σ' H' _ h => sq_of h.2.1) ?_ ?_
      · obtain ⟨tb, h8, h7, hl⟩ := hin c hc
        exact ⟨nums tb, e14 _ _ (e13 _ _ (k12 _ _ ((e9.trans e911) _ _ h8) (hnl h7))), by rw [nums_len]; exact hl⟩
      · rintro k z σ' H14 hz ⟨⟨w11, rfl⟩, h1, h2, h3, h4, h5⟩
        have hzm := List.mem_of_getElem? hz
        obtain ⟨c, rfl⟩ := hrefs z hzm
        obtain ⟨ys, hc, hys⟩ := h4 c hzm
        have hk100 : k ≤ 100 := by
          have h1 := (List.getElem?_eq_some_iff.mp hz).1
          have h2 := dxt.length
          rw [List.length_map, gR.len] at h2
          omega
        refine q_appP (K := K) (M := MF) (i := 11) (P := (· = .int 0)) hc rfl evd_int (Nat.lt_of_le_of_lt (show ys.length ≤ 1000 by omega) (by decide)) fun v d H15 e15 dv pd => ?_
        refine ⟨_, rfl, .inl ⟨rfl, _, SqL.of upd_same⟩, c, _, rfl, rfl, upd_same, ?_⟩
        rw [upd_upd]
        refine ⟨⟨_, rfl⟩, ?_, ?_, ?_, fun c' hc' => ?_, fun b o hb hn => ?_⟩
        · rw [upd_ne (Ne.symm (hinlt c hzm))]
          exact e15 _ _ h1
        · rw [upd_ne (Ne.symm (hinll c hzm))]
          exact e15 _ _ h2
        · rw [upd_ne (Ne.symm (hinlq c hzm))]
          exact e15 _ _ h3
        · by_cases e : c' = c
          · subst e
            exact ⟨_, upd_same, by rw [List.length_reverse, List.length_append, List.length_singleton]; omega⟩
          · obtain ⟨ys', hy', hl'⟩ := h4 c' hc'
            exact ⟨ys', by rw [upd_ne e]; exact e15 _ _ hy', by omega⟩
        · rw [upd_ne (fun e => hn (.inr (.inr (.inr (by rw [e]; exact hzm)))))]
          exact e15 _ _ (h5 b o hb hn)
      · rintro σ' H14 ⟨⟨w11, rfl⟩, h1, h2, h3, h4, h5⟩
        refine ⟨_, rfl, .inl ⟨rfl, _, SqL.of h1⟩, lt, xt, rfl, rfl, h1, ?_⟩
        have h2' : (upd H14 lt (.lst xt.reverse)) ll = some (.lst (nums R.liked)) := by rw [upd_ne (Ne.symm hltll)]; exact h2
        have hlt_lq : lt ≠ lq := hnl hlt
        have hll_lq : ll ≠ lq := hnl (fresh_back e8 hll)
        refine s_appP (K := K) (M := MF) (i := 10) (P := (· = .int 7)) h2' rfl evd_int ?_ fun v d H15 e15 dv pd => ?_
        · rw [nums_len]
          have : R.liked.length ≤ 36 := lik_len gR.toWf (by omega)
          exact Nat.lt_of_le_of_lt this (by decide)
        -- all lists that were changed
        have keep : ∀ b o, H13 b = some o → ¬ (b = lq ∨ b = lt ∨ b = ll ∨ V.ref b ∈ xt) → (upd H15 ll (.lst (nums R.liked ++ [v]))) b = some o := fun b o hb hn => by
          rw [upd_ne (fun e => hn (.inr (.inr (.inl e))))]
          exact e15 _ _ (by rw [upd_ne (fun e => hn (.inr (.inl e)))]; exact h5 b o hb hn)
        have hqE : (upd H15 ll (.lst (nums R.liked ++ [v]))) lq = some (.lst (xs ++ [.ref p])) := by
          rw [upd_ne (Ne.symm hll_lq)]
          exact e15 _ _ (by rw [upd_ne (Ne.symm hlt_lq)]; exact h3)
        have ch : ChM (fun b => b = lq ∨ b = lt ∨ b = ll ∨ V.ref b ∈ xt) H13 (upd H15 ll (.lst (nums R.liked ++ [v]))) := ⟨keep, fun b hb => by
          rcases hb with rfl | rfl | rfl | hb
          · exact ⟨_, e13 _ _ hq12⟩
          · exact ⟨_, e13 _ _ hlt12⟩
          · exact ⟨_, e13 _ _ hll12⟩
          · obtain ⟨tb, h8, h7, _⟩ := hin b hb
            exact ⟨_, e13 _ _ (k12 _ _ ((e9.trans e911) _ _ h8) (hnl h7))⟩⟩
        generalize upd H15 ll (.lst (nums R.liked ++ [v])) = HE at keep hqE ch
        have new7 : ∀ c, (c = lq ∨ c = lt ∨ c = ll ∨ V.ref c ∈ xt) → c = lq ∨ H7 c = none := fun c hc => by
          rcases hc with h | rfl | rfl | h
          · exact .inl h
          · exact .inr hlt
          · exact .inr (fresh_back e8 hll)
          · exact .inr (hin c h).choose_spec.2.1
        have to13 : ∀ {p' : Addr} {R' : Pl}, ReadAt K CB CR (fun b => b = lq ∨ b = lt ∨ b = ll ∨ V.ref b ∈ xt) H11 p' S R' → ReadAt K CB CR (· = lq) HE p' S R' := fun {p' R'} h => by
          have h12 := h.upd (o := .lst (xs ++ [.ref p])) hq11 (.inl rfl)
          rw [eH12] at h12
          exact ((h12.ex e13).ch ch).weak fun c hc => .inl hc
        refine ⟨fun b o hb => keep b o (e13 _ _ (e512 _ _ hb)) fun hn => ?_, _, _, _, _, xs ++ [.ref p], rfl, hqE, by rw [List.length_append, hxl]; rfl, fun k v hv => ?_⟩
        · rcases new7 b hn with h | h
          · rw [h, hlq] at hb
            cases hb
          · rw [e7 _ _ hb] at h
            cases h
        · by_cases hk : k < xs.length
          · rw [List.getElem?_append_left hk] at hv
            obtain ⟨p', R', rfl, hR', hrd'⟩ := hrd k v hv
            exact ⟨p', R', rfl, hR', to13 ((hrd'.avoid new7).ex ((e8.trans e9).trans e911))⟩
          · have hk2 := (List.getElem?_eq_some_iff.mp hv).1
            rw [List.length_append, List.length_singleton] at hk2
            have ek : k = j := by omega
            subst ek
            rw [List.getElem?_append_right (by omega), show k - xs.length = 0 by omega] at hv
            cases hv
            refine ⟨p, R, rfl, hRj, to13 (hmk _ (fun c hc => ?_) ?_)⟩
            · rcases hc with rfl | rfl | rfl | hc
              · rw [e10 _ _ hq9]; simp
              · rw [(e9.trans e10) _ _ hlt8]; simp
              · rw [e10 _ _ hll9]; simp
              · obtain ⟨tb, h8, _⟩ := hin c hc
                rw [(e9.trans e10) _ _ h8]
                simp
            · refine (hB5.avoid fun c hc => ?_).ex (e59.trans e10)
              rcases new7 c hc with h | h
              · exact .inr (by rw [h]; exact hlq)
              · exact .inr (fresh_back e7 h)
    -- the readers are asked
    · rintro σ' H7 ⟨e7, v8, v9, v10, v11, xs, rfl, hq7, hxl, hrd⟩
      have hxl : xs.length = 2 := hxl
      refine s_forR1 (ea_cons (ev_ofI (K := K) (M := MF) evd_int) ea_nil) (by omega)
        (fun k σ' H' => Ex H7 H' ∧ ∃ u8 u12 u13, σ' = [some (.ref a), some (.int (0 + (i : Int))), some (.ref b), some (.ref l), some (.ref x), some (.ref lo), some (.ref lr), some (.ref lq), u8, v9, v10, v11, u12, u13])
        (fun H8 e8 => ⟨e8, _, _, _, rfl⟩) ?_ ?_
      · rintro k σ' H8 hk ⟨e8, w8, w12, w13, rfl⟩
        refine ⟨_, rfl, _, rfl, lq, lo, xs, [y1, y2], rfl, SqL.of (e8 _ _ hq7), SqL.of ((e7.trans e8) _ _ hlo5), for_it (walk_zip (K := K) (a := lq) (b := lo) (xs := xs) (ys := [y1, y2]) rfl)
          (fun j σ' H' => Ex H7 H' ∧ ∃ u8 u13, σ' = [some (.ref a), some (.int (0 + (i : Int))), some (.ref b), some (.ref l), some (.ref x), some (.ref lo), some (.ref lr), some (.ref lq), u8, v9, v10, v11, some (.int (k : Int)), u13])
          ⟨e8, _, _, rfl⟩ (fun j σ' H' _ h => ⟨SqL.of (h.1 _ _ hq7), SqL.of ((e7.trans h.1) _ _ hlo5)⟩) ?_ ?_⟩
        · rintro j z σ' Ha Hb hj ⟨ea, w8, w13, rfl⟩ ⟨Tp, z1, z2, rfl, hTp, rfl, hz1, hz2⟩
          obtain ⟨p, R, rfl, hRj, hR0⟩ := hrd j z1 hz1
          obtain ⟨R', hRj', dy, gR, hR6⟩ := hplain hz2
          rw [hRj] at hRj'
          cases hRj'
          have hR7 : ReadAt K CB CR MF H7 p S R := hR0.weak fun _ h => h.elim
          have eb : Ex H7 (upd Ha Tp (.tup [.ref p, z2])) := ea.trans (Ex.new hTp)
          refine ⟨_, _, rfl, SqT.of upd_same, rfl, _, _, rfl, _, _, rfl, rfl, ?_⟩
          generalize upd Ha Tp (.tup [.ref p, z2]) = Hb at eb
          have e5b : Ex H5 Hb := e7.trans eb
          refine q_when (b := false) (et_or (a := false) (b := false) (evt_not (evt_B (K := K) (M := MF) (evd_lreads (ts := ts) (ev_var (i := 13) rfl) (hR7.ex eb) gR hK (evd_var (i := 3) rfl (hsg5.ex e5b)) (evd_var (i := 8) rfl (dy.ex e5b)) (evd_var (i := 6) rfl (hrows e5b)) hts)))
            (fun _ => et_is (evt_test (K := K) (M := MF) (evd_neD (n := 3) (m := 3) (evd_ltold okF (ev_var (i := 13) rfl) (hR7.ex eb) gR (evd_var (i := 3) rfl (hsg5.ex e5b)) hS100) (evd_var (i := 8) rfl (dy.ex e5b)) (flat_pl R) (flat_pl R))) (by rw [(flat_pl R).self]; rfl))) (fun hb H9 e9 => nomatch hb) (fun hb H9 e9 => ?_)
          have e79 := eb.trans e9
          have hR9 := hR7.ex e79
          obtain ⟨dx, pb, lt, ll, hp9⟩ := hR9.ins
          refine ⟨_, rfl, p, dx, _, rfl, hp9, rflds_no _ _ _ _ (by decide +kernel) (by decide +kernel) (by decide +kernel) (by decide +kernel), MF, p, S, R, rfl, hR9, fun l1 H10 hl1 e10 hl10 => ⟨.inl ⟨rfl, _, SqL.of hl10⟩, l1, _, .int 9, rfl, rfl, hl10, ?_, ?_⟩⟩
          · rw [nums_len]
            exact Nat.lt_of_le_of_lt (lik_len gR.toWf (by omega)) (by decide)
          have e11 : Ex H9 (upd H10 l1 (.lst (nums R.liked ++ [.int 9]))) := Ex.mut e10 hl1
          generalize upd H10 l1 (.lst (nums R.liked ++ [.int 9])) = H11 at e11
          have hS1 : 0 < S.length := gS.ne
          have ht0 : R.tables[0]? = some (R.tables[0]'(by rw [gR.len]; exact hS1)) := List.getElem?_eq_getElem _
          refine ⟨_, rfl, p, dx, _, rfl, e11 _ _ hp9, rflds_no _ _ _ _ (by decide +kernel) (by decide +kernel) (by decide +kernel) (by decide +kernel), MF, p, S, R, 0, _, rfl, hR9.ex e11, ht0, fun l2 H12 hl2 e12 hl12 => ⟨.inl ⟨rfl, _, SqL.of hl12⟩, l2, _, rfl, rfl, hl12, ?_⟩⟩
          have e13 : Ex H11 (upd H12 l2 (.lst [])) := Ex.mut e12 hl2
          generalize upd H12 l2 (.lst []) = H13 at e13
          have e913 := e11.trans e13
          refine ⟨_, rfl, p, dx, _, rfl, e913 _ _ hp9, rflds_no _ _ _ _ (by decide +kernel) (by decide +kernel) (by decide +kernel) (by decide +kernel), MF, p, S, R, rfl, hR9.ex e913, fun pb' hBp => ?_⟩
          have hBx := hB5.ex (e7.trans (e79.trans e913))
          have hBp0 := hBp
          obtain ⟨dxb, q1, q2, hpb, _⟩ := hBp0
          refine ⟨pb', dxb, _, rfl, hpb, flds_no _ _ (by decide +kernel) (by decide +kernel), _, rfl, MF, MF, pb', x, S, S, rfl, hBp, hBx, sS.ok, sS.ok, ?_⟩
          rw [like_same]
          exact ⟨_, _, rfl, rfl, _, rfl, iteF ⟨e79.trans e913, _, _, rfl⟩⟩
        · rintro σ' Ha ⟨ea, w8, w13, rfl⟩
          exact ⟨ea, _, _, _, rfl⟩
      · rintro σ' H8 ⟨e8, w8, w12, w13, rfl⟩
        exact ⟨eH.trans (((e1.trans e2).trans e3).trans ((e4.trans e5).trans (e7.trans e8))), _, _, _, _, _, _, _, _, _, _, _, _, _, rfl⟩
end
end TH
set_option maxRecDepth 100000
set_option maxHeartbeats 4000000
namespace TH
open PySem L2 Evl LamX
/-! ### what the top has written: each a fact that k_is finds -/
def DefG (K : PySem.W.Frag) (x : Str) (st : Stmt) : Prop := ∃ (f : Addr) (fd : FuncData), PySem.W.nsIn K mainGlobals x = some (some (.ref f)) ∧ Fun K x x st f fd
def MethG (K : PySem.W.Frag) (C : Addr) (m q : Str) (st : Stmt) : Prop := ∃ (f : Addr) (fd : FuncData), Meth K C m f ∧ Fun K m q st f fd
/-- a method that is read as a value -/
def BMethG (K : PySem.W.Frag) (C : Addr) (m q : Str) (st : Stmt) : Prop := ∃ (f : Addr) (fd : FuncData), BMeth K C m f ∧ Fun K m q st f fd
section
variable {K : PySem.W.Frag} {x q : Str} {st : Stmt} {f C : Addr} {oc : Value} {od an : Option Addr} {osl : Array (Option Value)} {kV doc pm cdv ct : Value}
theorem defG_mk (a : PySem.W.nsIn K mainGlobals x = some (some (.ref f))) (l : K.lookup f = some ⟨oc, od, .func (PySem.W.fnOf x x (defArgs st) (defBody st) (defScope st) .none kV doc pm an cdv ct), osl⟩)
    (c : PySem.W.codeIn K cdv x = true) (k : PySem.W.keepIn K (.ref f) = true) : DefG K x st := ⟨f, _, a, fun_mk l c k⟩
theorem methG_mk {m : Str} (a : PySem.W.findIn K (.ref C) m = some (some (.ref f))) (i : PySem.W.isFn K (.ref f) = true) (l : K.lookup f = some ⟨oc, od, .func (PySem.W.fnOf m q (defArgs st) (defBody st) (defScope st) .none kV doc pm an cdv ct), osl⟩)
    (c : PySem.W.codeIn K cdv q = true) (k : PySem.W.keepIn K (.ref f) = true) : MethG K C m q st := ⟨f, _, ⟨a, i, k⟩, fun_mk l c k⟩
theorem bmethG_mk {m : Str} (a : PySem.W.findIn K (.ref C) m = some (some (.ref f))) (i : PySem.W.isFn K (.ref f) = true) (l : K.lookup f = some ⟨oc, od, .func (PySem.W.fnOf m q (defArgs st) (defBody st) (defScope st) .none kV doc pm an cdv ct), osl⟩)
    (c : PySem.W.codeIn K cdv q = true) (k : PySem.W.keepIn K (.ref f) = true) (gf : PySem.W.specialIn K (.ref f) "__get__" = some (some (.builtin "function.__get__"))) (tk : PySem.W.takesIn K (.ref f) = some false) (cp : PySem.W.copiedNames.contains m = false) (fi : PySem.W.fnIn K f = true) : BMethG K C m q st := ⟨f, _, ⟨⟨a, i, k⟩, gf, tk, cp, fi⟩, fun_mk l c k⟩
end
/-- what the names of the built-ins stand for -/
structure NoneG (K : PySem.W.Frag) : Prop where
  n_range : PySem.W.nsIn K mainGlobals "range" = some none
  n_len : PySem.W.nsIn K mainGlobals "len" = some none
  n_abs : PySem.W.nsIn K mainGlobals "abs" = some none
  n_divmod : PySem.W.nsIn K mainGlobals "divmod" = some none
  n_all : PySem.W.nsIn K mainGlobals "all" = some none
  n_any : PySem.W.nsIn K mainGlobals "any" = some none
  n_enumerate : PySem.W.nsIn K mainGlobals "enumerate" = some none
  n_min : PySem.W.nsIn K mainGlobals "min" = some none
  n_max : PySem.W.nsIn K mainGlobals "max" = some none
  n_list : PySem.W.nsIn K mainGlobals "list" = some none
  n_bool : PySem.W.nsIn K mainGlobals "bool" = some none
  n_isinstance : PySem.W.nsIn K mainGlobals "isinstance" = some none
  n_reversed : PySem.W.nsIn K mainGlobals "reversed" = some none
  n_tuple : PySem.W.nsIn K mainGlobals "tuple" = some none
  n_zip : PySem.W.nsIn K mainGlobals "zip" = some none
/-- the class Book -/
structure BookG (K : PySem.W.Frag) (C : Addr) : Prop where
  a : PySem.W.nsIn K mainGlobals "Book" = some (some (.ref C))
  pg : PySem.W.plainGet K C Str.empty = true
  hd : PySem.W.hasDictIn K C = true
  po : PySem.W.plainOver K C = true
  sa : PySem.W.findIn K (.ref C) "__setattr__" = some (some (.builtin "object.__setattr__"))
  made : PySem.W.makesIn K C = true
  kc : PySem.W.keepIn K (.ref C) = true
  n1 : PySem.W.findIn K (.ref C) "_names" = some none
  n2 : PySem.W.findIn K (.ref C) "_kids" = some none
/-- the class Reader -/
structure ReaderG (K : PySem.W.Frag) (C : Addr) : Prop where
  a : PySem.W.nsIn K mainGlobals "Reader" = some (some (.ref C))
  pg : PySem.W.plainGet K C Str.empty = true
  hd : PySem.W.hasDictIn K C = true
  po : PySem.W.plainOver K C = true
  sa : PySem.W.findIn K (.ref C) "__setattr__" = some (some (.builtin "object.__setattr__"))
  made : PySem.W.makesIn K C = true
  kc : PySem.W.keepIn K (.ref C) = true
  n1 : PySem.W.findIn K (.ref C) "_book" = some none
  n2 : PySem.W.findIn K (.ref C) "_moods" = some none
  n3 : PySem.W.findIn K (.ref C) "_tables" = some none
  n4 : PySem.W.findIn K (.ref C) "_liked" = some none
/-- a class of refusals that is raised -/
structure RaiseG (K : PySem.W.Frag) (C : Addr) : Prop where
  x : PySem.W.excIn K C [.type "ValueError", .type "Exception", .type "BaseException", .type "object"] "ValueError.__new__" = true
  k : PySem.W.keepIn K (.ref C) = true
  b : PySem.W.subIn K (.ref C) (.type "BaseException") = some true
  t : PySem.W.typeIn K (.ref C) = some (.type "type")
theorem all_mk {l : PySem.W.OpenLaw} {w : World} {K : PySem.W.Frag} {h : Heap} {mg : Str → Option Value} {fa CB CR fL : Addr} (X : K.In h) (G : h.Ns mainGlobals mg) (hfa : mg "law" = some (.ref fa))
    {oc : Value} {od an : Option Addr} {osl : Array (Option Value)} {kV doc pm cdL ct : Value} {t1 t2 t3 t4 t5 : Tok} {D1 D2 D3 : Addr}
    (NG : NoneG K)
    (CG_Book : BookG K CB)
    (CG_Reader : ReaderG K CR)
    (a_NoBook : PySem.W.nsIn K mainGlobals "NoBook" = some (some (.ref D1))) (RG_NoBook : RaiseG K D1)
    (a_NoTree : PySem.W.nsIn K mainGlobals "NoTree" = some (some (.ref D2))) (RG_NoTree : RaiseG K D2)
    (a_NoReader : PySem.W.nsIn K mainGlobals "NoReader" = some (some (.ref D3))) (RG_NoReader : RaiseG K D3)
    (D_is_name : DefG K "is_name" sName)
    (D_is_sign : DefG K "is_sign" sSign)
    (D_are_signs : DefG K "are_signs" sAre)
    (D_is_row : DefG K "is_row" sIsRow)
    (D_is_tree : DefG K "is_tree" sIsTree)
    (D_check_tree : DefG K "check_tree" sCheck)
    (D_led : DefG K "led" sLed)
    (D_place_in_table : DefG K "place_in_table" sPlace)
    (D_table_size : DefG K "table_size" sTabSize)
    (D_is_table : DefG K "is_table" sIsTable)
    (D_are_tables : DefG K "are_tables" sAreTabs)
    (D_are_liked : DefG K "are_liked" sAreLiked)
    (D__law_box : DefG K "_law_box" sBox)
    (D__law_more : DefG K "_law_more" sMore)
    (D__law_take : DefG K "_law_take" sTake)
    (D__law_signs : DefG K "_law_signs" sSigns)
    (D__law_row : DefG K "_law_row" sLRow)
    (D__law_reader : DefG K "_law_reader" sLReader)
    (D__law_led : DefG K "_law_led" sLLed)
    (D__law_mood : DefG K "_law_mood" sLMood)
    (D__law_told : DefG K "_law_told" sLTold)
    (D__law_reads : DefG K "_law_reads" sLReads)
    (M_Book___init__ : MethG K CB "__init__" "Book.__init__" sInit)
    (M_Book_many : MethG K CB "many" "Book.many" sMany)
    (M_Book_has : MethG K CB "has" "Book.has" sHas)
    (M_Book_kids : MethG K CB "kids" "Book.kids" sKd)
    (M_Book_is_like : MethG K CB "is_like" "Book.is_like" sLike)
    (M_Reader___init__ : MethG K CR "__init__" "Reader.__init__" sRInit)
    (M_Reader__keep : MethG K CR "_keep" "Reader._keep" sRKeep)
    (M_Reader_book : MethG K CR "book" "Reader.book" sRBook)
    (M_Reader_moods : MethG K CR "moods" "Reader.moods" sRMoods)
    (M_Reader_table : MethG K CR "table" "Reader.table" sRTable)
    (M_Reader_liked : MethG K CR "liked" "Reader.liked" sRLiked)
    (M_Reader_lead : BMethG K CR "lead" "Reader.lead" sRLead)
    (M_Reader_mood : MethG K CR "mood" "Reader.mood" sRMood)
    (M_Reader_likes : MethG K CR "likes" "Reader.likes" sRLikes)
    (k1 : PySem.W.nsIn K mainGlobals "LONGEST_NAME" = some (some (.int 3 t1)))
    (k2 : PySem.W.nsIn K mainGlobals "MOST_SIGNS_signs" = some (some (.int 6 t2)))
    (k3 : PySem.W.nsIn K mainGlobals "MOST_KIDS" = some (some (.int 2 t3)))
    (k4 : PySem.W.nsIn K mainGlobals "MOST_SIGNS_trees" = some (some (.int 40 t4)))
    (k5 : PySem.W.nsIn K mainGlobals "MOST_MOODS" = some (some (.int 6 t5)))
    (aL : PySem.W.nsIn K mainGlobals "law" = some (some (.ref fL))) (lk : K.lookup fL = some ⟨oc, od, .func (PySem.W.fnOf "law" "law" (defArgs sLaw) (defBody sLaw) (defScope sLaw) .none kV doc pm an cdL ct), osl⟩)
    (hcd : PySem.W.codeIn K cdL "law" = true) (kL : PySem.W.keepIn K (.ref fL) = true) :
    LawAtS l w K CX0 8 63 "_law_script" mg fa h := by
  have e := hfa.symm.trans (PySem.W.mg_of X G aL)
  cases e
  have gn : ∀ {x : Str}, PySem.W.nsIn K mainGlobals x = some none → mg x = none := fun z => PySem.W.mg_none_of X G z
  have gs : ∀ {x : Str} {v : Value}, PySem.W.nsIn K mainGlobals x = some (some v) → mg x = some v := fun z => PySem.W.mg_of X G z
  have GS : GlobS mg := { range := gn NG.n_range, len := gn NG.n_len, abs := gn NG.n_abs, divmod := gn NG.n_divmod, all := gn NG.n_all, any := gn NG.n_any, longest := ⟨_, gs k1⟩, most := ⟨_, gs k2⟩, mostK := ⟨_, gs k3⟩, enumerate := gn NG.n_enumerate }
  have GL : GlobL mg := { GS with min := gn NG.n_min }
  have GW : GlobW mg := { GL with max := gn NG.n_max, list := gn NG.n_list, zip := gn NG.n_zip }
  have GR : GlobR mg := { mostT := ⟨_, gs k4⟩, reversed := gn NG.n_reversed }
  have GU : GlobU mg := { tuple := gn NG.n_tuple }
  have GY : GlobY mg := { list := gn NG.n_list }
  have GM : GlobM mg := { most := ⟨_, gs k5⟩ }
  have GI : GlobI mg := { isinstance := gn NG.n_isinstance, bool := gn NG.n_bool }
  have T : BookT K mg CB := ⟨⟨CG_Book.pg, CG_Book.hd, CG_Book.po, CG_Book.sa⟩, CG_Book.n1, CG_Book.n2, gs CG_Book.a⟩
  have TR : ReadT K mg CR := ⟨⟨CG_Reader.pg, CG_Reader.hd, CG_Reader.po, CG_Reader.sa⟩, CG_Reader.n1, CG_Reader.n2, CG_Reader.n3, CG_Reader.n4, gs CG_Reader.a⟩
  have X_NoBook : ExcT K mg "NoBook" D1 := ⟨gs a_NoBook, RG_NoBook.x, RG_NoBook.k, RG_NoBook.b, RG_NoBook.t⟩
  have X_NoTree : ExcT K mg "NoTree" D2 := ⟨gs a_NoTree, RG_NoTree.x, RG_NoTree.k, RG_NoTree.b, RG_NoTree.t⟩
  have X_NoReader : ExcT K mg "NoReader" D3 := ⟨gs a_NoReader, RG_NoReader.x, RG_NoReader.k, RG_NoReader.b, RG_NoReader.t⟩
  obtain ⟨f_is_name, d_is_name, a_is_name, F_is_name⟩ := D_is_name
  have b_is_name := F_is_name.binds (ps := ["name", "longest"]) fun _ _ _ _ _ _ us hl => match us, hl with | [_, _], _ => rfl
  obtain ⟨f_is_sign, d_is_sign, a_is_sign, F_is_sign⟩ := D_is_sign
  have b_is_sign := F_is_sign.binds (ps := ["sign"]) fun _ _ _ _ _ _ us hl => match us, hl with | [_], _ => rfl
  obtain ⟨f_are_signs, d_are_signs, a_are_signs, F_are_signs⟩ := D_are_signs
  have b_are_signs := F_are_signs.binds (ps := ["signs"]) fun _ _ _ _ _ _ us hl => match us, hl with | [_], _ => rfl
  obtain ⟨f_is_row, d_is_row, a_is_row, F_is_row⟩ := D_is_row
  have b_is_row := F_is_row.binds (ps := ["book", "row"]) fun _ _ _ _ _ _ us hl => match us, hl with | [_, _], _ => rfl
  obtain ⟨f_is_tree, d_is_tree, a_is_tree, F_is_tree⟩ := D_is_tree
  have b_is_tree := F_is_tree.binds (ps := ["book", "tree"]) fun _ _ _ _ _ _ us hl => match us, hl with | [_, _], _ => rfl
  obtain ⟨f_check_tree, d_check_tree, a_check_tree, F_check_tree⟩ := D_check_tree
  have b_check_tree := F_check_tree.binds (ps := ["book", "tree"]) fun _ _ _ _ _ _ us hl => match us, hl with | [_, _], _ => rfl
  obtain ⟨f_led, d_led, a_led, F_led⟩ := D_led
  have b_led := F_led.binds (ps := ["book", "row", "lead"]) fun _ _ _ _ _ _ us hl => match us, hl with | [_, _, _], _ => rfl
  obtain ⟨f_place_in_table, d_place_in_table, a_place_in_table, F_place_in_table⟩ := D_place_in_table
  have b_place_in_table := F_place_in_table.binds (ps := ["moods", "kids"]) fun _ _ _ _ _ _ us hl => match us, hl with | [_, _], _ => rfl
  obtain ⟨f_table_size, d_table_size, a_table_size, F_table_size⟩ := D_table_size
  have b_table_size := F_table_size.binds (ps := ["moods", "kids"]) fun _ _ _ _ _ _ us hl => match us, hl with | [_, _], _ => rfl
  obtain ⟨f_is_table, d_is_table, a_is_table, F_is_table⟩ := D_is_table
  have b_is_table := F_is_table.binds (ps := ["table", "moods", "kids"]) fun _ _ _ _ _ _ us hl => match us, hl with | [_, _, _], _ => rfl
  obtain ⟨f_are_tables, d_are_tables, a_are_tables, F_are_tables⟩ := D_are_tables
  have b_are_tables := F_are_tables.binds (ps := ["book", "moods", "tables"]) fun _ _ _ _ _ _ us hl => match us, hl with | [_, _, _], _ => rfl
  obtain ⟨f_are_liked, d_are_liked, a_are_liked, F_are_liked⟩ := D_are_liked
  have b_are_liked := F_are_liked.binds (ps := ["liked", "moods"]) fun _ _ _ _ _ _ us hl => match us, hl with | [_, _], _ => rfl
  obtain ⟨f__law_box, d__law_box, a__law_box, F__law_box⟩ := D__law_box
  have b__law_box := F__law_box.binds (ps := ["_law_script", "_law_k"]) fun _ _ _ _ _ _ us hl => match us, hl with | [_, _], _ => rfl
  obtain ⟨f__law_more, d__law_more, a__law_more, F__law_more⟩ := D__law_more
  have b__law_more := F__law_more.binds (ps := ["_law_box_here"]) fun _ _ _ _ _ _ us hl => match us, hl with | [_], _ => rfl
  obtain ⟨f__law_take, d__law_take, a__law_take, F__law_take⟩ := D__law_take
  have b__law_take := F__law_take.binds (ps := ["_law_box_here", "_law_count"]) fun _ _ _ _ _ _ us hl => match us, hl with | [_, _], _ => rfl
  obtain ⟨f__law_signs, d__law_signs, a__law_signs, F__law_signs⟩ := D__law_signs
  have b__law_signs := F__law_signs.binds (ps := ["_law_box_here"]) fun _ _ _ _ _ _ us hl => match us, hl with | [_], _ => rfl
  obtain ⟨f__law_row, d__law_row, a__law_row, F__law_row⟩ := D__law_row
  have b__law_row := F__law_row.binds (ps := ["_law_box_here", "_law_signs_here", "_law_most"]) fun _ _ _ _ _ _ us hl => match us, hl with | [_, _, _], _ => rfl
  obtain ⟨f__law_reader, d__law_reader, a__law_reader, F__law_reader⟩ := D__law_reader
  have b__law_reader := F__law_reader.binds (ps := ["_law_box_here", "_law_signs_here", "_law_most"]) fun _ _ _ _ _ _ us hl => match us, hl with | [_, _, _], _ => rfl
  obtain ⟨f__law_led, d__law_led, a__law_led, F__law_led⟩ := D__law_led
  have b__law_led := F__law_led.binds (ps := ["_law_plain", "_law_sign", "_law_kids"]) fun _ _ _ _ _ _ us hl => match us, hl with | [_, _, _], _ => rfl
  obtain ⟨f__law_mood, d__law_mood, a__law_mood, F__law_mood⟩ := D__law_mood
  have b__law_mood := F__law_mood.binds (ps := ["_law_signs_here", "_law_plain", "_law_row_here"]) fun _ _ _ _ _ _ us hl => match us, hl with | [_, _, _], _ => rfl
  obtain ⟨f__law_told, d__law_told, a__law_told, F__law_told⟩ := D__law_told
  have b__law_told := F__law_told.binds (ps := ["_law_reader_here", "_law_signs_here"]) fun _ _ _ _ _ _ us hl => match us, hl with | [_, _], _ => rfl
  obtain ⟨f__law_reads, d__law_reads, a__law_reads, F__law_reads⟩ := D__law_reads
  have b__law_reads := F__law_reads.binds (ps := ["_law_reader_here", "_law_signs_here", "_law_plain", "_law_rows"]) fun _ _ _ _ _ _ us hl => match us, hl with | [_, _, _, _], _ => rfl
  obtain ⟨f_Book___init__, d_Book___init__, m_Book___init__, F_Book___init__⟩ := M_Book___init__
  have b_Book___init__ := F_Book___init__.binds (ps := ["self", "signs"]) fun _ _ _ _ _ _ us hl => match us, hl with | [_, _], _ => rfl
  obtain ⟨f_Book_many, d_Book_many, m_Book_many, F_Book_many⟩ := M_Book_many
  have b_Book_many := F_Book_many.binds (ps := ["self"]) fun _ _ _ _ _ _ us hl => match us, hl with | [_], _ => rfl
  obtain ⟨f_Book_has, d_Book_has, m_Book_has, F_Book_has⟩ := M_Book_has
  have b_Book_has := F_Book_has.binds (ps := ["self", "sign"]) fun _ _ _ _ _ _ us hl => match us, hl with | [_, _], _ => rfl
  obtain ⟨f_Book_kids, d_Book_kids, m_Book_kids, F_Book_kids⟩ := M_Book_kids
  have b_Book_kids := F_Book_kids.binds (ps := ["self", "sign"]) fun _ _ _ _ _ _ us hl => match us, hl with | [_, _], _ => rfl
  obtain ⟨f_Book_is_like, d_Book_is_like, m_Book_is_like, F_Book_is_like⟩ := M_Book_is_like
  have b_Book_is_like := F_Book_is_like.binds (ps := ["self", "book"]) fun _ _ _ _ _ _ us hl => match us, hl with | [_, _], _ => rfl
  obtain ⟨f_Reader___init__, d_Reader___init__, m_Reader___init__, F_Reader___init__⟩ := M_Reader___init__
  have b_Reader___init__ := F_Reader___init__.binds (ps := ["self", "book", "moods", "tables", "liked"]) fun _ _ _ _ _ _ us hl => match us, hl with | [_, _, _, _, _], _ => rfl
  obtain ⟨f_Reader__keep, d_Reader__keep, m_Reader__keep, F_Reader__keep⟩ := M_Reader__keep
  have b_Reader__keep := F_Reader__keep.binds (ps := ["self", "book", "moods", "tables", "liked"]) fun _ _ _ _ _ _ us hl => match us, hl with | [_, _, _, _, _], _ => rfl
  obtain ⟨f_Reader_book, d_Reader_book, m_Reader_book, F_Reader_book⟩ := M_Reader_book
  have b_Reader_book := F_Reader_book.binds (ps := ["self"]) fun _ _ _ _ _ _ us hl => match us, hl with | [_], _ => rfl
  obtain ⟨f_Reader_moods, d_Reader_moods, m_Reader_moods, F_Reader_moods⟩ := M_Reader_moods
  have b_Reader_moods := F_Reader_moods.binds (ps := ["self"]) fun _ _ _ _ _ _ us hl => match us, hl with | [_], _ => rfl
  obtain ⟨f_Reader_table, d_Reader_table, m_Reader_table, F_Reader_table⟩ := M_Reader_table
  have b_Reader_table := F_Reader_table.binds (ps := ["self", "sign"]) fun _ _ _ _ _ _ us hl => match us, hl with | [_, _], _ => rfl
  obtain ⟨f_Reader_liked, d_Reader_liked, m_Reader_liked, F_Reader_liked⟩ := M_Reader_liked
  have b_Reader_liked := F_Reader_liked.binds (ps := ["self"]) fun _ _ _ _ _ _ us hl => match us, hl with | [_], _ => rfl
  obtain ⟨f_Reader_lead, d_Reader_lead, bm_Reader_lead, F_Reader_lead⟩ := M_Reader_lead
  have m_Reader_lead := bm_Reader_lead.mt
  have b_Reader_lead := F_Reader_lead.binds (ps := ["self", "sign", "kids"]) fun _ _ _ _ _ _ us hl => match us, hl with | [_, _, _], _ => rfl
  obtain ⟨f_Reader_mood, d_Reader_mood, m_Reader_mood, F_Reader_mood⟩ := M_Reader_mood
  have b_Reader_mood := F_Reader_mood.binds (ps := ["self", "tree"]) fun _ _ _ _ _ _ us hl => match us, hl with | [_, _], _ => rfl
  obtain ⟨f_Reader_likes, d_Reader_likes, m_Reader_likes, F_Reader_likes⟩ := M_Reader_likes
  have b_Reader_likes := F_Reader_likes.binds (ps := ["self", "tree"]) fun _ _ _ _ _ _ us hl => match us, hl with | [_, _], _ => rfl
  have bL : ∀ (s : Shared) (u : Value), BindsTo s (PySem.W.fnOf "law" "law" (defArgs sLaw) (defBody sLaw) (defScope sLaw) .none kV doc pm an cdL ct) ⟨[u], []⟩ [("_law_script", u)] := fun s v => .of_eq rfl
  refine ⟨_, [], spLaw K, fun p hp => (nomatch hp), fun p hp => (nomatch hp), fun p hp => (nomatch hp), bL, fun H a ns hl _ _ hS => ⟨a, ns, rfl, hS, hl, fun _ => rfl⟩, fun base KB GBs TB => ?_⟩
  have BK : BookK l.prog w K mg base CB := ⟨T, ⟨_, _, m_Book_many, ok_many F_Book_many GS T, b_Book_many⟩, ⟨_, _, m_Book_kids, ok_kd F_Book_kids T, b_Book_kids⟩⟩
  have BH : OneM l.prog w K mg base CB "has" 1 ["self", "sign"] (spHas CB) := ⟨_, _, m_Book_has, ok_has F_Book_has GS T, b_Book_has⟩
  have GX : OneF l.prog w K mg base "_law_box" 1 ["_law_script", "_law_k"] (spBox K) := ⟨_, _, gs a__law_box, F__law_box.kp, ok_box F__law_box GS.toGlob, b__law_box⟩
  have OT : OneF l.prog w K mg base "_law_take" 2 ["_law_box_here", "_law_count"] spTake := ⟨_, _, gs a__law_take, F__law_take.kp, ok_take F__law_take GS.toGlob F__law_more (gs a__law_more) b__law_more, b__law_take⟩
  obtain ⟨fT, dT, mT, kT, gT, bT⟩ := id OT
  have OS : OneF l.prog w K mg base "_law_signs" 3 ["_law_box_here"] (spSigns K) := ⟨_, _, gs a__law_signs, F__law_signs.kp, ok_signs F__law_signs GL gT kT mT bT, b__law_signs⟩
  have OR : OneF l.prog w K mg base "_law_row" 3 ["_law_box_here", "_law_signs_here", "_law_most"] (spLRow K) := ⟨_, _, gs a__law_row, F__law_row.kp, ok_lrow F__law_row GS.toGlob GU gT kT mT bT, b__law_row⟩
  have OP : OneF l.prog w K mg base "_law_reader" 3 ["_law_box_here", "_law_signs_here", "_law_most"] (spLReader K) := ⟨_, _, gs a__law_reader, F__law_reader.kp, ok_lreader F__law_reader GS.toGlob OT, b__law_reader⟩
  have OLL : OneF l.prog w K mg base "_law_led" 1 ["_law_plain", "_law_sign", "_law_kids"] (spLLedL K) := ⟨_, _, gs a__law_led, F__law_led.kp, ok_lledL F__law_led, b__law_led⟩
  have OLM : OneF l.prog w K mg base "_law_mood" 2 ["_law_signs_here", "_law_plain", "_law_row_here"] (spLMood K) := ⟨_, _, gs a__law_mood, F__law_mood.kp, ok_lmood F__law_mood GS.toGlob GR OLL, b__law_mood⟩
  have R1 : OneF l.prog w K mg base "is_row" 2 ["book", "row"] (spIsRow K CB) := ⟨_, _, gs a_is_row, F_is_row.kp, ok_isrow F_is_row BK BH, b_is_row⟩
  have R2 : OneF l.prog w K mg base "is_tree" 3 ["book", "tree"] (spIsTree K CB) := ⟨_, _, gs a_is_tree, F_is_tree.kp, ok_istree F_is_tree GS.toGlob GR R1, b_is_tree⟩
  have R3 : OneX l.prog w K mg base "check_tree" 4 ["book", "tree"] (spCheck K CB D2) := ⟨_, _, gs a_check_tree, F_check_tree.kp, ok_check F_check_tree X_NoTree R2, b_check_tree⟩
  have P1 : OneF l.prog w K mg base "place_in_table" 1 ["moods", "kids"] (spPlace K) := ⟨_, _, gs a_place_in_table, F_place_in_table.kp, ok_place F_place_in_table, b_place_in_table⟩
  have P2 : OneF l.prog w K mg base "table_size" 1 ["moods", "kids"] spTabSize := ⟨_, _, gs a_table_size, F_table_size.kp, ok_tabsize F_table_size GS.toGlob, b_table_size⟩
  have P3 : OneF l.prog w K mg base "is_table" 2 ["table", "moods", "kids"] (spIsTable K) := ⟨_, _, gs a_is_table, F_is_table.kp, ok_istable F_is_table GS P2, b_is_table⟩
  have P4 : OneF l.prog w K mg base "are_tables" 3 ["book", "moods", "tables"] (spAreTabs K CB) := ⟨_, _, gs a_are_tables, F_are_tables.kp, ok_aretabs F_are_tables GS BK P3, b_are_tables⟩
  have P5 : OneF l.prog w K mg base "are_liked" 1 ["liked", "moods"] (spAreLiked K) := ⟨_, _, gs a_are_liked, F_are_liked.kp, ok_areliked F_are_liked, b_are_liked⟩
  have K1 : OneM l.prog w K mg base CR "_keep" 1 ["self", "book", "moods", "tables", "liked"] (spRKeep K CR) := ⟨_, _, m_Reader__keep, ok_rkeep F_Reader__keep GY TR, b_Reader__keep⟩
  have K2 : OneM l.prog w K mg base CR "book" 1 ["self"] (spRBook K CB CR) := ⟨_, _, m_Reader_book, ok_rbook F_Reader_book TR, b_Reader_book⟩
  have K3 : OneM l.prog w K mg base CR "moods" 1 ["self"] (spRMoods K CB CR) := ⟨_, _, m_Reader_moods, ok_rmoods F_Reader_moods TR, b_Reader_moods⟩
  have K4 : OneM l.prog w K mg base CR "table" 1 ["self", "sign"] (spRTable K CB CR) := ⟨_, _, m_Reader_table, ok_rtable F_Reader_table GY TR, b_Reader_table⟩
  have K5 : OneM l.prog w K mg base CR "liked" 1 ["self"] (spRLiked K CB CR) := ⟨_, _, m_Reader_liked, ok_rliked F_Reader_liked GY TR, b_Reader_liked⟩
  have FL : FnR l.prog w K mg base CX0 2 f_Reader_lead (spRLead K CB CR) := ((ok_rlead F_Reader_lead TR P1).raw b_Reader_lead .nil).imp fun vs H Q E h => by rw [List.append_nil]; exact h
  have R4 : OneF l.prog w K mg base "led" 3 ["book", "row", "lead"] (spLed K CB f_Reader_lead (spRLead K CB CR)) := ⟨_, _, gs a_led, F_led.kp, ok_led F_led GS.toGlob GR GU BK FL (by decide) bm_Reader_lead.fi, b_led⟩
  have K6 : OneMX l.prog w K mg base CR "mood" 5 ["self", "tree"] (spRMood K CB CR D2) := ⟨_, _, m_Reader_mood, ok_rmood F_Reader_mood TR bm_Reader_lead R3 R4, b_Reader_mood⟩
  have K7 : OneMX l.prog w K mg base CR "likes" 6 ["self", "tree"] (spRLikes K CB CR D2) := ⟨_, _, m_Reader_likes, ok_rlikes F_Reader_likes TR K6, b_Reader_likes⟩
  have OTo : OneF l.prog w K mg base "_law_told" 2 ["_law_reader_here", "_law_signs_here"] (spLTold K CB CR) := ⟨_, _, gs a__law_told, F__law_told.kp, ok_ltold F__law_told GS.toGlob TR K3 K4 K5, b__law_told⟩
  have ORe : OneF l.prog w K mg base "_law_reads" 7 ["_law_reader_here", "_law_signs_here", "_law_plain", "_law_rows"] (spLReads K CB CR) := ⟨_, _, gs a__law_reads, F__law_reads.kp, ok_lreads F__law_reads GI TR K6 K7 OLM, b__law_reads⟩
  have K8 : OneM l.prog w K mg base CB "is_like" 1 ["self", "book"] (spLike CB) := ⟨_, _, m_Book_is_like, ok_like F_Book_is_like T, b_Book_is_like⟩
  exact ok_law (fun_mk lk hcd kL) GW GX OT OS OR OP ORe OTo T TR K5 K4 K2 K8 ⟨CG_Book.made, m_Book___init__.at_, m_Book___init__.fn, CG_Book.kc⟩ (ok_init F_Book___init__ GS T X_NoBook F_is_name (gs a_is_name) b_is_name F_is_sign (gs a_is_sign) b_is_sign F_are_signs (gs a_are_signs) b_are_signs) b_Book___init__
    ⟨CG_Reader.made, m_Reader___init__.at_, m_Reader___init__.fn, CG_Reader.kc⟩ (ok_rinit F_Reader___init__ GM TR X_NoReader P4 P5 K1) b_Reader___init__
end TH
open PySem PySem.W PyProof.Rows
set_option maxRecDepth 100000 in
set_option maxHeartbeats 0 in
theorem PySem.Challenge.cw_treehands_k06_readers_read_holds : PySem.Challenge.rw_treehands_k06_readers_read.Holds := by
  w_on; o_law; k_head; (case hw => w_witness2)
  k_fill
  refine LamX.walk_ofTs (l := PySem.Challenge.rw_treehands_k06_readers_read) (n := 63) (k := 8) (x := "_law_script") (CX := fun _ => L2.CX0) rfl (by decide) rfl ⟨rfl, by decide, by decide⟩ (fun w h Y => PySem.W.kIn_of Y) ?F (fun _ _ _ _ _ z => z)
  case F =>
    intro w mg fa h Y KX G hmg
    refine' TH.all_mk KX G hmg ?NG ?CG_Book ?CG_Reader ?a_NoBook ?RG_NoBook ?a_NoTree ?RG_NoTree ?a_NoReader ?RG_NoReader ?D_is_name ?D_is_sign ?D_are_signs ?D_is_row ?D_is_tree ?D_check_tree ?D_led ?D_place_in_table ?D_table_size ?D_is_table ?D_are_tables ?D_are_liked ?D__law_box ?D__law_more ?D__law_take ?D__law_signs ?D__law_row ?D__law_reader ?D__law_led ?D__law_mood ?D__law_told ?D__law_reads ?M_Book___init__ ?M_Book_many ?M_Book_has ?M_Book_kids ?M_Book_is_like ?M_Reader___init__ ?M_Reader__keep ?M_Reader_book ?M_Reader_moods ?M_Reader_table ?M_Reader_liked ?M_Reader_lead ?M_Reader_mood ?M_Reader_likes ?k1 ?k2 ?k3 ?k4 ?k5 ?aL ?lk ?hcd ?kL
    case NG => exact ⟨by k_is, by k_is, by k_is, by k_is, by k_is, by k_is, by k_is, by k_is, by k_is, by k_is, by k_is, by k_is, by k_is, by k_is, by k_is⟩
    case CG_Book => (refine' TH.BookG.mk ?a ?pg ?hd ?po ?sa ?made ?kc ?n1 ?n2; (case a => k_is); (case pg => k_is); (case hd => k_is); (case po => k_is); (case sa => k_is); (case made => k_is); (case kc => k_is); (case n1 => k_is); (case n2 => k_is))
    case CG_Reader => (refine' TH.ReaderG.mk ?a ?pg ?hd ?po ?sa ?made ?kc ?n1 ?n2 ?n3 ?n4; (case a => k_is); (case pg => k_is); (case hd => k_is); (case po => k_is); (case sa => k_is); (case made => k_is); (case kc => k_is); (case n1 => k_is); (case n2 => k_is); (case n3 => k_is); (case n4 => k_is))
    case a_NoBook => k_is
    case RG_NoBook => (refine' TH.RaiseG.mk ?x ?k ?b ?t; (case x => kernel_rfl); (case k => k_is); (case b => k_is); (case t => k_is))
    case a_NoTree => k_is
    case RG_NoTree => (refine' TH.RaiseG.mk ?x ?k ?b ?t; (case x => kernel_rfl); (case k => k_is); (case b => k_is); (case t => k_is))
    case a_NoReader => k_is
    case RG_NoReader => (refine' TH.RaiseG.mk ?x ?k ?b ?t; (case x => kernel_rfl); (case k => k_is); (case b => k_is); (case t => k_is))
    case D_is_name => (refine' TH.defG_mk ?a ?l ?c ?k; (case a => k_is); (case l => k_is); (case c => k_is); (case k => k_is))
    case D_is_sign => (refine' TH.defG_mk ?a ?l ?c ?k; (case a => k_is); (case l => k_is); (case c => k_is); (case k => k_is))
    case D_are_signs => (refine' TH.defG_mk ?a ?l ?c ?k; (case a => k_is); (case l => k_is); (case c => k_is); (case k => k_is))
    case D_is_row => (refine' TH.defG_mk ?a ?l ?c ?k; (case a => k_is); (case l => k_is); (case c => k_is); (case k => k_is))
    case D_is_tree => (refine' TH.defG_mk ?a ?l ?c ?k; (case a => k_is); (case l => k_is); (case c => k_is); (case k => k_is))
    case D_check_tree => (refine' TH.defG_mk ?a ?l ?c ?k; (case a => k_is); (case l => k_is); (case c => k_is); (case k => k_is))
    case D_led => (refine' TH.defG_mk ?a ?l ?c ?k; (case a => k_is); (case l => k_is); (case c => k_is); (case k => k_is))
    case D_place_in_table => (refine' TH.defG_mk ?a ?l ?c ?k; (case a => k_is); (case l => k_is); (case c => k_is); (case k => k_is))
    case D_table_size => (refine' TH.defG_mk ?a ?l ?c ?k; (case a => k_is); (case l => k_is); (case c => k_is); (case k => k_is))
    case D_is_table => (refine' TH.defG_mk ?a ?l ?c ?k; (case a => k_is); (case l => k_is); (case c => k_is); (case k => k_is))
    case D_are_tables => (refine' TH.defG_mk ?a ?l ?c ?k; (case a => k_is); (case l => k_is); (case c => k_is); (case k => k_is))
    case D_are_liked => (refine' TH.defG_mk ?a ?l ?c ?k; (case a => k_is); (case l => k_is); (case c => k_is); (case k => k_is))
    case D__law_box => (refine' TH.defG_mk ?a ?l ?c ?k; (case a => k_is); (case l => k_is); (case c => k_is); (case k => k_is))
    case D__law_more => (refine' TH.defG_mk ?a ?l ?c ?k; (case a => k_is); (case l => k_is); (case c => k_is); (case k => k_is))
    case D__law_take => (refine' TH.defG_mk ?a ?l ?c ?k; (case a => k_is); (case l => k_is); (case c => k_is); (case k => k_is))
    case D__law_signs => (refine' TH.defG_mk ?a ?l ?c ?k; (case a => k_is); (case l => k_is); (case c => k_is); (case k => k_is))
    case D__law_row => (refine' TH.defG_mk ?a ?l ?c ?k; (case a => k_is); (case l => k_is); (case c => k_is); (case k => k_is))
    case D__law_reader => (refine' TH.defG_mk ?a ?l ?c ?k; (case a => k_is); (case l => k_is); (case c => k_is); (case k => k_is))
    case D__law_led => (refine' TH.defG_mk ?a ?l ?c ?k; (case a => k_is); (case l => k_is); (case c => k_is); (case k => k_is))
    case D__law_mood => (refine' TH.defG_mk ?a ?l ?c ?k; (case a => k_is); (case l => k_is); (case c => k_is); (case k => k_is))
    case D__law_told => (refine' TH.defG_mk ?a ?l ?c ?k; (case a => k_is); (case l => k_is); (case c => k_is); (case k => k_is))
    case D__law_reads => (refine' TH.defG_mk ?a ?l ?c ?k; (case a => k_is); (case l => k_is); (case c => k_is); (case k => k_is))
    case M_Book___init__ => (refine' TH.methG_mk ?a ?i ?l ?c ?k; (case a => k_is); (case i => k_is); (case l => k_is); (case c => k_is); (case k => k_is))
    case M_Book_many => (refine' TH.methG_mk ?a ?i ?l ?c ?k; (case a => k_is); (case i => k_is); (case l => k_is); (case c => k_is); (case k => k_is))
    case M_Book_has => (refine' TH.methG_mk ?a ?i ?l ?c ?k; (case a => k_is); (case i => k_is); (case l => k_is); (case c => k_is); (case k => k_is))
    case M_Book_kids => (refine' TH.methG_mk ?a ?i ?l ?c ?k; (case a => k_is); (case i => k_is); (case l => k_is); (case c => k_is); (case k => k_is))
    case M_Book_is_like => (refine' TH.methG_mk ?a ?i ?l ?c ?k; (case a => k_is); (case i => k_is); (case l => k_is); (case c => k_is); (case k => k_is))
    case M_Reader___init__ => (refine' TH.methG_mk ?a ?i ?l ?c ?k; (case a => k_is); (case i => k_is); (case l => k_is); (case c => k_is); (case k => k_is))
    case M_Reader__keep => (refine' TH.methG_mk ?a ?i ?l ?c ?k; (case a => k_is); (case i => k_is); (case l => k_is); (case c => k_is); (case k => k_is))
    case M_Reader_book => (refine' TH.methG_mk ?a ?i ?l ?c ?k; (case a => k_is); (case i => k_is); (case l => k_is); (case c => k_is); (case k => k_is))
    case M_Reader_moods => (refine' TH.methG_mk ?a ?i ?l ?c ?k; (case a => k_is); (case i => k_is); (case l => k_is); (case c => k_is); (case k => k_is))
    case M_Reader_table => (refine' TH.methG_mk ?a ?i ?l ?c ?k; (case a => k_is); (case i => k_is); (case l => k_is); (case c => k_is); (case k => k_is))
    case M_Reader_liked => (refine' TH.methG_mk ?a ?i ?l ?c ?k; (case a => k_is); (case i => k_is); (case l => k_is); (case c => k_is); (case k => k_is))
    case M_Reader_lead => (refine' TH.bmethG_mk ?a ?i ?l ?c ?k ?gf ?tk ?cp ?fi; (case a => k_is); (case i => k_is); (case l => k_is); (case c => k_is); (case k => k_is); (case gf => k_is); (case tk => k_is); (case cp => decide +kernel); (case fi => k_is))
    case M_Reader_mood => (refine' TH.methG_mk ?a ?i ?l ?c ?k; (case a => k_is); (case i => k_is); (case l => k_is); (case c => k_is); (case k => k_is))
    case M_Reader_likes => (refine' TH.methG_mk ?a ?i ?l ?c ?k; (case a => k_is); (case i => k_is); (case l => k_is); (case c => k_is); (case k => k_is))
    case k1 => k_is
    case k2 => k_is
    case k3 => k_is
    case k4 => k_is
    case k5 => k_is
    case aL => k_is
    case lk => k_is
    case hcd => k_is
    case kL => k_is
